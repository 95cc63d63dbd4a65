/- Give of the program. -/
import Derived.Test.YtmbaimcneffnlaaLZ
import Derived.Laws.OwnMore
namespace Go.Proofs.Ytmbaimcneffnlaa
open Go.RowKit Go.Deep Go.Joins
/-- What an input does: the board behind it, its frames, and whether it came in. -/
def gvF (b : Bd) (F : List ByteArray) (d : Int) (s : ByteArray) : Bd × List ByteArray × Bool :=
  if d = 1 ∧ b.inn.size + s.size ≤ 1024 then ({ b with inn := b.inn ++ s }, F, true) else
  if d = 2 ∧ 0 < s.size ∧ s.size ≤ 64 ∧ F.length < 64 then (b, F ++ [s], true) else
  (b, F, false)
theorem Box.ld_inn {w : World} {g n c : Nat} {p : Option Addr} {b : Bd} (k : Box w g (b.at p n c)) : (Instr.loadAt 9 (.pointer (some ⟨g, 2, none⟩))).run Try.prog w = .ok (.string b.inn) w := k.load_inn
theorem Box.ld_fr {w : World} {g n c : Nat} {p : Option Addr} {b : Bd} (k : Box w g (b.at p n c)) : (Instr.loadAt 23 (.pointer (some ⟨g, 9, none⟩))).run Try.prog w = .ok (.slice p n c) w := k.load_fr
theorem Box.cl_fr {w : World} {g n c : Nat} {p : Option Addr} {b : Bd} (k : Box w g (b.at p n c)) : w.cell? ⟨g, 9, none⟩ = some (.slice p n c) := k.cell_fr
set_option maxRecDepth 10000 in
set_option maxHeartbeats 1000000 in
theorem give_no (b : Bd) (F : List ByteArray) (d : Int) (s : ByteArray) (W : World) (hf : FAt W (.slice b.fp b.fn b.fc) F) (hF : F.length ≤ 8796093022208) (h1 : (d == 1) = false) (h2 : (d == 2) = false) : Calls Try.prog 22 #[bdV b, .int .i64 d, .string s] W (Told W (b) (F) (fun x => .tuple #[x, .bool false])) := by
  have HFR := Lib.hid hf
  have HFL := Lib.hid hF
  clear hf hF
  go_enter Try.func22, Try.ntmps22
  go_upto_region 1 with (fail)
  have X := Lib.hid (KA.new W b)
  generalize (W.alloc (bdO b)).alloc zeroO = wx at X ⊢
  go_wp2_with (first | (with_reducible refine wpList_load_by rfl rfl (Box.load X.out.own) rfl ?_) | (go_at_call 20; (with_reducible refine (copy_bd b F _ (HFR.out.next X.out.below) HFL.out).mono ?_); rintro e w2 ⟨p, cap, rfl, ho, k2⟩; have HO := Lib.hid (ho.base X.out.below.size); have X := Lib.hid (X.out.next k2); clear ho k2) | (with_reducible refine w_box X.out.own rfl rfl rfl rfl ?_; intro wy hwy; have HO := Lib.hid (HO.out.put X.out.own hwy); have X := Lib.hid (X.out.put hwy); clear hwy) | (with_reducible refine w_box X.out.res rfl rfl rfl rfl ?_; intro wy hwy; have HO := Lib.hid (HO.out.put X.out.res hwy); have X := Lib.hid (X.out.tell hwy); clear hwy) | fail)
  exact bodyPost_ret (v := .tuple #[bdV (b.at p F.length cap), .bool false]) (results_two Try.results22 _ _ (W.heap.size + 1) _ _ rfl X.out.res rfl) rfl ⟨p, cap, rfl, HO.out, X.out.below⟩
set_option maxRecDepth 10000 in
set_option maxHeartbeats 1000000 in
theorem give_s0 (b : Bd) (F : List ByteArray)  (s : ByteArray) (W : World) (hf : FAt W (.slice b.fp b.fn b.fc) F) (hF : F.length ≤ 8796093022208) (hi : b.inn.size ≤ 1024) (h : ¬ b.inn.size + s.size ≤ 1024) : Calls Try.prog 22 #[bdV b, .int .i64 1, .string s] W (Told W (b) (F) (fun x => .tuple #[x, .bool false])) := by
  have HFR := Lib.hid hf
  have HFL := Lib.hid hF
  clear hf hF
  have hw : wrap64 (1024 - (b.inn.size : Int)) = 1024 - (b.inn.size : Int) := by unfold wrap64; omega
  have hd : decide (1024 - (b.inn.size : Int) < s.size) = true := decide_eq_true (by omega)
  clear hi h
  go_enter Try.func22, Try.ntmps22
  go_upto_region 1 with (fail)
  have X := Lib.hid (KA.new W b)
  generalize (W.alloc (bdO b)).alloc zeroO = wx at X ⊢
  go_wp2_with (first | (with_reducible refine wpList_load_by rfl rfl (Box.load X.out.own) rfl ?_) | (go_at_call 20; (with_reducible refine (copy_bd b F _ (HFR.out.next X.out.below) HFL.out).mono ?_); rintro e w2 ⟨p, cap, rfl, ho, k2⟩; have HO := Lib.hid (ho.base X.out.below.size); have X := Lib.hid (X.out.next k2); clear ho k2) | (with_reducible refine w_box X.out.own rfl rfl rfl rfl ?_; intro wy hwy; have HO := Lib.hid (HO.out.put X.out.own hwy); have X := Lib.hid (X.out.put hwy); clear hwy) | (with_reducible refine w_box X.out.res rfl rfl rfl rfl ?_; intro wy hwy; have HO := Lib.hid (HO.out.put X.out.res hwy); have X := Lib.hid (X.out.tell hwy); clear hwy) | (with_reducible refine wpList_load_by rfl rfl (Box.ld_inn X.out.own) rfl ?_) | fail)
  exact bodyPost_ret (v := .tuple #[bdV (b.at p F.length cap), .bool false]) (results_two Try.results22 _ _ (W.heap.size + 1) _ _ rfl X.out.res rfl) rfl ⟨p, cap, rfl, HO.out, X.out.below⟩
set_option maxRecDepth 10000 in
set_option maxHeartbeats 1000000 in
theorem give_s1 (b : Bd) (F : List ByteArray)  (s : ByteArray) (W : World) (hf : FAt W (.slice b.fp b.fn b.fc) F) (hF : F.length ≤ 8796093022208) (hi : b.inn.size ≤ 1024) (h : b.inn.size + s.size ≤ 1024) : Calls Try.prog 22 #[bdV b, .int .i64 1, .string s] W (Told W ({ b with inn := b.inn ++ s }) (F) (fun x => .tuple #[x, .bool true])) := by
  have HFR := Lib.hid hf
  have HFL := Lib.hid hF
  clear hf hF
  have hw : wrap64 (1024 - (b.inn.size : Int)) = 1024 - (b.inn.size : Int) := by unfold wrap64; omega
  have hd : decide (1024 - (b.inn.size : Int) < s.size) = false := decide_eq_false (by omega)
  have hs1 : ¬ (9223372036854775807 < (b.inn.size : Int) + s.size) := by omega
  have hs2 : ¬ (9223372036854775807 < b.inn.size + s.size) := by omega
  have hs3 : b.inn.size + s.size ≤ 9223372036854775807 := by omega
  clear hi
  go_enter Try.func22, Try.ntmps22
  go_upto_region 1 with (fail)
  have X := Lib.hid (KA.new W b)
  generalize (W.alloc (bdO b)).alloc zeroO = wx at X ⊢
  go_wp2_with (first | (with_reducible refine wpList_load_by rfl rfl (Box.load X.out.own) rfl ?_) | (go_at_call 20; (with_reducible refine (copy_bd b F _ (HFR.out.next X.out.below) HFL.out).mono ?_); rintro e w2 ⟨p, cap, rfl, ho, k2⟩; have HO := Lib.hid (ho.base X.out.below.size); have X := Lib.hid (X.out.next k2); clear ho k2) | (with_reducible refine w_box X.out.own rfl rfl rfl rfl ?_; intro wy hwy; have HO := Lib.hid (HO.out.put X.out.own hwy); have X := Lib.hid (X.out.put hwy); clear hwy) | (with_reducible refine w_box X.out.res rfl rfl rfl rfl ?_; intro wy hwy; have HO := Lib.hid (HO.out.put X.out.res hwy); have X := Lib.hid (X.out.tell hwy); clear hwy) | (with_reducible refine wpList_load_by rfl rfl (Box.ld_inn X.out.own) rfl ?_) | (with_reducible refine Box.w_inn X.out.own rfl rfl rfl rfl ?_; intro wy hwy; have HO := Lib.hid (HO.out.put X.out.own hwy); have X := Lib.hid (X.out.put hwy); clear hwy) | fail)
  exact bodyPost_ret (v := .tuple #[bdV ({ (b.at p F.length cap) with inn := b.inn ++ s }), .bool true]) (results_two Try.results22 _ _ (W.heap.size + 1) _ _ rfl X.out.res rfl) rfl ⟨p, cap, rfl, HO.out, X.out.below⟩
set_option maxRecDepth 10000 in
set_option maxHeartbeats 1000000 in
theorem give_n0 (b : Bd) (F : List ByteArray)  (s : ByteArray) (W : World) (hf : FAt W (.slice b.fp b.fn b.fc) F) (hF : F.length ≤ 8796093022208) (h : ¬ (0 < s.size ∧ s.size ≤ 64 ∧ F.length < 64)) : Calls Try.prog 22 #[bdV b, .int .i64 2, .string s] W (Told W (b) (F) (fun x => .tuple #[x, .bool false])) := by
  have HFR := Lib.hid hf
  have HFL := Lib.hid hF
  clear hf hF
  have hin := in_none s
  by_cases a1 : 0 < s.size
  · have e0 : s.toList.isEmpty = false := by rw [decide_eq_true a1] at hin; simpa using hin
    have e1 : s.toList ≠ [] := by rw [List.isEmpty_eq_false_iff] at e0; exact e0
    clear hin
    by_cases a2 : s.size ≤ 64
    · have d1 : decide (64 < s.size) = false := decide_eq_false (by omega); have d1i : decide ((64 : Int) < s.size) = false := decide_eq_false (by omega)
      have d2 : decide (64 ≤ F.length) = true := decide_eq_true (by omega); have d2i : decide ((64 : Int) ≤ F.length) = true := decide_eq_true (by omega)
      clear h a1 a2
      go_enter Try.func22, Try.ntmps22
      go_upto_region 1 with (fail)
      have X := Lib.hid (KA.new W b)
      generalize (W.alloc (bdO b)).alloc zeroO = wx at X ⊢
      go_upto_region 9 with (first | (with_reducible refine wpList_load_by rfl rfl (Box.load X.out.own) rfl ?_) | (go_at_call 20; (with_reducible refine (copy_bd b F _ (HFR.out.next X.out.below) HFL.out).mono ?_); rintro e w2 ⟨p, cap, rfl, ho, k2⟩; have HO := Lib.hid (ho.base X.out.below.size); have X := Lib.hid (X.out.next k2); clear ho k2) | (with_reducible refine w_box X.out.own rfl rfl rfl rfl ?_; intro wy hwy; have HO := Lib.hid (HO.out.put X.out.own hwy); have X := Lib.hid (X.out.put hwy); clear hwy) | (with_reducible refine w_box X.out.res rfl rfl rfl rfl ?_; intro wy hwy; have HO := Lib.hid (HO.out.put X.out.res hwy); have X := Lib.hid (X.out.tell hwy); clear hwy) | fail)
      have m_fr := X.out.own.cl_fr
      go_wp2_with (first | (with_reducible refine wpList_load_by rfl rfl (Box.load X.out.own) rfl ?_) | (go_at_call 20; (with_reducible refine (copy_bd b F _ (HFR.out.next X.out.below) HFL.out).mono ?_); rintro e w2 ⟨p, cap, rfl, ho, k2⟩; have HO := Lib.hid (ho.base X.out.below.size); have X := Lib.hid (X.out.next k2); clear ho k2) | (with_reducible refine w_box X.out.own rfl rfl rfl rfl ?_; intro wy hwy; have HO := Lib.hid (HO.out.put X.out.own hwy); have X := Lib.hid (X.out.put hwy); clear hwy) | (with_reducible refine w_box X.out.res rfl rfl rfl rfl ?_; intro wy hwy; have HO := Lib.hid (HO.out.put X.out.res hwy); have X := Lib.hid (X.out.tell hwy); clear hwy) | fail)
      exact bodyPost_ret (v := .tuple #[bdV (b.at p F.length cap), .bool false]) (results_two Try.results22 _ _ (W.heap.size + 1) _ _ rfl X.out.res rfl) rfl ⟨p, cap, rfl, HO.out, X.out.below⟩
    · have d1 : decide (64 < s.size) = true := decide_eq_true (by omega); have d1i : decide ((64 : Int) < s.size) = true := decide_eq_true (by omega)
      clear h a1 a2
      go_enter Try.func22, Try.ntmps22
      go_upto_region 1 with (fail)
      have X := Lib.hid (KA.new W b)
      generalize (W.alloc (bdO b)).alloc zeroO = wx at X ⊢
      go_wp2_with (first | (with_reducible refine wpList_load_by rfl rfl (Box.load X.out.own) rfl ?_) | (go_at_call 20; (with_reducible refine (copy_bd b F _ (HFR.out.next X.out.below) HFL.out).mono ?_); rintro e w2 ⟨p, cap, rfl, ho, k2⟩; have HO := Lib.hid (ho.base X.out.below.size); have X := Lib.hid (X.out.next k2); clear ho k2) | (with_reducible refine w_box X.out.own rfl rfl rfl rfl ?_; intro wy hwy; have HO := Lib.hid (HO.out.put X.out.own hwy); have X := Lib.hid (X.out.put hwy); clear hwy) | (with_reducible refine w_box X.out.res rfl rfl rfl rfl ?_; intro wy hwy; have HO := Lib.hid (HO.out.put X.out.res hwy); have X := Lib.hid (X.out.tell hwy); clear hwy) | fail)
      exact bodyPost_ret (v := .tuple #[bdV (b.at p F.length cap), .bool false]) (results_two Try.results22 _ _ (W.heap.size + 1) _ _ rfl X.out.res rfl) rfl ⟨p, cap, rfl, HO.out, X.out.below⟩
  · have e0 : s.toList.isEmpty = true := by rw [decide_eq_false a1] at hin; simpa using hin
    have e1 : s.size = 0 := by omega
    clear hin h a1
    go_enter Try.func22, Try.ntmps22
    go_upto_region 1 with (fail)
    have X := Lib.hid (KA.new W b)
    generalize (W.alloc (bdO b)).alloc zeroO = wx at X ⊢
    go_wp2_with (first | (with_reducible refine wpList_load_by rfl rfl (Box.load X.out.own) rfl ?_) | (go_at_call 20; (with_reducible refine (copy_bd b F _ (HFR.out.next X.out.below) HFL.out).mono ?_); rintro e w2 ⟨p, cap, rfl, ho, k2⟩; have HO := Lib.hid (ho.base X.out.below.size); have X := Lib.hid (X.out.next k2); clear ho k2) | (with_reducible refine w_box X.out.own rfl rfl rfl rfl ?_; intro wy hwy; have HO := Lib.hid (HO.out.put X.out.own hwy); have X := Lib.hid (X.out.put hwy); clear hwy) | (with_reducible refine w_box X.out.res rfl rfl rfl rfl ?_; intro wy hwy; have HO := Lib.hid (HO.out.put X.out.res hwy); have X := Lib.hid (X.out.tell hwy); clear hwy) | fail)
    exact bodyPost_ret (v := .tuple #[bdV (b.at p F.length cap), .bool false]) (results_two Try.results22 _ _ (W.heap.size + 1) _ _ rfl X.out.res rfl) rfl ⟨p, cap, rfl, HO.out, X.out.below⟩
set_option maxRecDepth 10000 in
set_option maxHeartbeats 1000000 in
theorem give_n1 (b : Bd) (F : List ByteArray)  (s : ByteArray) (W : World) (hf : FAt W (.slice b.fp b.fn b.fc) F) (hF : F.length ≤ 8796093022208) (a1 : 0 < s.size) (a2 : s.size ≤ 64) (a3 : F.length < 64) : Calls Try.prog 22 #[bdV b, .int .i64 2, .string s] W (Told W (b) (F ++ [s]) (fun x => .tuple #[x, .bool true])) := by
  have HFR := Lib.hid hf
  have HFL := Lib.hid hF
  clear hf hF
  have hin := in_none s
  have e0 : s.toList.isEmpty = false := by rw [decide_eq_true a1] at hin; simpa using hin
  have e1 : s.toList ≠ [] := by rw [List.isEmpty_eq_false_iff] at e0; exact e0
  have d1 : decide (64 < s.size) = false := decide_eq_false (by omega); have d1i : decide ((64 : Int) < s.size) = false := decide_eq_false (by omega)
  have d2 : decide (64 ≤ F.length) = false := decide_eq_false (by omega); have d2i : decide ((64 : Int) ≤ F.length) = false := decide_eq_false (by omega)
  clear hin a1 a2
  go_enter Try.func22, Try.ntmps22
  go_upto_region 1 with (fail)
  have X := Lib.hid (KA.new W b)
  generalize (W.alloc (bdO b)).alloc zeroO = wx at X ⊢
  go_upto_region 9 with (first | (with_reducible refine wpList_load_by rfl rfl (Box.load X.out.own) rfl ?_) | (go_at_call 20; (with_reducible refine (copy_bd b F _ (HFR.out.next X.out.below) HFL.out).mono ?_); rintro e w2 ⟨p, cap, rfl, ho, k2⟩; have HO := Lib.hid (ho.base X.out.below.size); have X := Lib.hid (X.out.next k2); clear ho k2) | (with_reducible refine w_box X.out.own rfl rfl rfl rfl ?_; intro wy hwy; have HO := Lib.hid (HO.out.put X.out.own hwy); have X := Lib.hid (X.out.put hwy); clear hwy) | (with_reducible refine w_box X.out.res rfl rfl rfl rfl ?_; intro wy hwy; have HO := Lib.hid (HO.out.put X.out.res hwy); have X := Lib.hid (X.out.tell hwy); clear hwy) | fail)
  have m_fr := X.out.own.cl_fr
  go_upto_region 11 with (fail)
  clear m_fr
  have Xa := Lib.hid (X.out.next (below1 wy (.cells #[.string s] 9)))
  have HOa := Lib.hid (HO.out.next (below1 wy (.cells #[.string s] 9)))
  obtain ⟨i, hi, hz, hs, hb⟩ := info9
  obtain ⟨v', w2', hrun, ho2, hgr, _⟩ := run_append_own (P := Try.prog) (wy.alloc (.cells #[.string s] 9)) W.heap.size 23 23 9 i (.string .empty) 1 16 Try.underlying23 hi hz hs hb rfl (by omega) (.slice p F.length cap) F.length (sC F) HOa.out ⟨wy.heap.size, 0, none⟩ 1 1 [.string s] rfl (fun j u hj => by
    match j, hj with
    | 0, hj => cases hj; rw [add_lit, World.cell?_alloc_new]; rfl) (by simp [Value.oneCell']) (by unfold maxLen; omega) (by omega) Xa.out.below.size
  obtain ⟨p2, cap2, rfl⟩ := owns_shape ho2
  have ht : Touch (wy.alloc (.cells #[.string s] 9)) w2' (fun k => some k = (Value.slice p F.length cap).ownBlock) := ⟨hgr.os, hgr.tape, hgr.output, hgr.size, fun k hk hne => hgr.block k hk hne⟩
  have nb1 : ∀ {g : Nat} {q : Bd}, Box (wy.alloc (.cells #[.string s] 9)) g q → Box w2' g q := fun hbx => hbx.touch ht (fun e => HOa.out.not_box hbx e.symm)
  have X2 := Lib.hid (KA.mk (nb1 Xa.out.own) (nb1 Xa.out.res) (Touch.below Xa.out.below ht (fun k e => (owns_lt HOa.out e.symm).1) Xa.out.below.size))
  have HO2 : RowKit.Hid (OwnF w2' W.heap.size (.slice p2 (F.length + 1) cap2) (F ++ [s])) := Lib.hid (by unfold OwnF; rw [List.length_append]; simpa [sC] using ho2)
  have HR := Lib.hid hrun
  clear hrun ho2 hgr ht nb1 hi hz hs hb i HOa
  go_wp2_with (first | (with_reducible refine wpList_load_by rfl rfl (Box.ld_fr Xa.out.own) rfl ?_) | (with_reducible refine wpList_load_by rfl rfl (Box.ld_fr X.out.own) rfl ?_) | (at_builtin; (refine wpList_append_run rfl _ _ 23 rfl _ _ _ rfl rfl _ HR.out ?_)) | (with_reducible refine Box.w_fr X2.out.own rfl rfl rfl rfl ?_; intro wy hwy; have HO := Lib.hid (HO2.out.put X2.out.own hwy); have X := Lib.hid (X2.out.put hwy); clear hwy X2) | (with_reducible refine wpList_load_by rfl rfl (Box.load X.out.own) rfl ?_) | (with_reducible refine w_box X.out.res rfl rfl rfl rfl ?_; intro wy hwy; have HO := Lib.hid (HO.out.put X.out.res hwy); have X := Lib.hid (X.out.tell hwy); clear hwy) | fail)
  exact bodyPost_ret (v := .tuple #[bdV ((b.at p F.length cap).at p2 (F.length + 1) cap2), .bool true]) (results_two Try.results22 _ _ (W.heap.size + 1) _ _ rfl X.out.res rfl) rfl ⟨p2, cap2, by rw [List.length_append]; rfl, by rw [List.length_append]; exact HO.out, X.out.below⟩
theorem give_any (b : Bd) (F : List ByteArray) (d : Int) (s : ByteArray) (W : World) (hf : FAt W (.slice b.fp b.fn b.fc) F) (hF : F.length ≤ 8796093022208) (hi : b.inn.size ≤ 1024) : Calls Try.prog 22 #[bdV b, .int .i64 d, .string s] W (Told W ((gvF b F d s).1) ((gvF b F d s).2.1) (fun x => .tuple #[x, .bool (gvF b F d s).2.2])) := by
  by_cases h1 : d = 1
  · subst h1
    by_cases h : b.inn.size + s.size ≤ 1024
    · rw [show gvF b F 1 s = ({ b with inn := b.inn ++ s }, F, true) from if_pos ⟨rfl, h⟩]
      exact give_s1 b F s W hf hF hi h
    · rw [show gvF b F 1 s = (b, F, false) from by unfold gvF; rw [if_neg (fun e => h e.2), if_neg (fun e => by omega)]]
      exact give_s0 b F s W hf hF hi h
  · by_cases h2 : d = 2
    · subst h2
      by_cases h : 0 < s.size ∧ s.size ≤ 64 ∧ F.length < 64
      · rw [show gvF b F 2 s = (b, F ++ [s], true) from by unfold gvF; rw [if_neg (fun e => by omega), if_pos ⟨rfl, h⟩]]
        exact give_n1 b F s W hf hF h.1 h.2.1 h.2.2
      · rw [show gvF b F 2 s = (b, F, false) from by unfold gvF; rw [if_neg (fun e => by omega), if_neg (fun e => h e.2)]]
        exact give_n0 b F s W hf hF h
    · rw [show gvF b F d s = (b, F, false) from by unfold gvF; rw [if_neg (fun e => h1 e.1), if_neg (fun e => h2 e.1)]]
      exact give_no b F d s W hf hF (beq_eq_false_iff_ne.2 h1) (beq_eq_false_iff_ne.2 h2)

end Go.Proofs.Ytmbaimcneffnlaa
