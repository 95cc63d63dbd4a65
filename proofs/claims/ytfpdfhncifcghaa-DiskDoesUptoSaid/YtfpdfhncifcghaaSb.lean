/- What the reference lays, and that it is what the program lays. -/
import Derived.Test.YtfpdfhncifcghaaSa
namespace Go
open Go.RowKit
theorem wpList_append_byte {P : Program} {w : World} {ops : Array Oper} {rest : List Oper} {o : Oper} {a : Act} {Q : Exit → Act → World → Prop} (hgd : o.guard = none) (s x : Operand) (t : TypeId)
    (ho : o.op = .call { callee := .builtin .append, args := #[s, x], argTypes := #[t, t] }) (i : TypeInfo) (z : Value) (ht : P.underlying t = some (.slice 5)) (hi : P.info? 5 = some i) (hz : i.zero = some z) (hsize : i.size = 1) (hby : i.bytes = 1) (hzs : z.cells.size = 1)
    (g cap : Nat) (L : List UInt8) (hs : a.eval s = .slice (some ⟨g, 0, none⟩) L.length cap) (hr : RowB w g cap L) (ad : Addr) (b : UInt8) (hx : a.eval x = .slice (some ad) 1 1) (ha : w.cell? ad = some (.int .u8 (b.toNat : Int))) (hlen : L.length + 1 ≤ 140737488355328)
    (h : ∀ g' cap' w', Hid (RowB w' g' cap' (L ++ [b])) → (g' = g ∨ w.heap.size ≤ g') → w.grownBy w' (some g) → wpList P ops Q rest (a.put o.dst (.slice (some ⟨g', 0, none⟩) (L.length + 1) cap')) w') : wpList P ops Q (o :: rest) a w := by
  refine wpList_plain hgd fun K hK => ?_
  obtain ⟨g', cap', w', hrun, h1, h2, h3⟩ := run_append_byte (P := P) w t o.type i z ht hi hz hsize hby hzs g cap L hr ad b ha hlen
  unfold Oper.wp
  simp [execOp, ho, resolve, invoke, builtin, hs, hx, hrun, Result.andThen]
  exact hK _ _ (h g' cap' w' h1 h2 h3)
theorem wpList_copy_into {P : Program} {w : World} {ops : Array Oper} {rest : List Oper} {o : Oper} {a : Act} {Q : Exit → Act → World → Prop} (hgd : o.guard = none) (d s : Operand) (dT sT : TypeId)
    (ho : o.op = .call { callee := .builtin .copy, args := #[d, s], argTypes := #[dT, sT] }) (hu : P.underlying dT = some (.slice 5)) (hsz : (P.info? 5).map (·.size) = some 1)
    (g cap off : Nat) (x : ByteArray) (L : List UInt8) (dCap : Nat) (hd : a.eval d = .slice (some ⟨g, off, none⟩) (L.length - off) dCap) (hs : a.eval s = .string x) (hr : RowB w g cap L) (hfit : off + x.size ≤ L.length)
    (h : ∀ w', Hid (RowB w' g cap (spliceB L off x)) → w.grownBy w' (some g) → wpList P ops Q rest (a.put o.dst (goInt x.size)) w') : wpList P ops Q (o :: rest) a w := by
  refine wpList_plain hgd fun K hK => ?_
  obtain ⟨w', hrun, h1, h2⟩ := run_copy_into (P := P) w dT sT o.type g cap off x L hu hsz hr hfit dCap
  unfold Oper.wp
  simp [execOp, ho, resolve, invoke, builtin, hd, hs, hrun, Result.andThen]
  exact hK _ _ (h w' h1 h2)
end Go
namespace Go.Proofs.Ytfpdfhncifcghaa
open Go.RowKit Go.Deep Go.Joins

/-! ### The plain side -/
def padTo (L : List UInt8) (n : Nat) : List UInt8 := L ++ List.replicate (n - L.length) 0
def laidL (L : List UInt8) (x : Wr) : List UInt8 := if wk x = true then spliceB (padTo L (x.pos.toNat + x.bytes.size)) x.pos.toNat x.bytes else L
def laidB (s : ByteArray) (x : Wr) : ByteArray := ⟨(laidL s.data.toList x).toArray⟩
theorem padTo_length (L : List UInt8) (n : Nat) : (padTo L n).length = if L.length < n then n else L.length := by
  unfold padTo
  rw [List.length_append, List.length_replicate]
  split <;> omega
theorem padTo_ge (L : List UInt8) (n : Nat) (h : n ≤ L.length) : padTo L n = L := by
  unfold padTo
  rw [Nat.sub_eq_zero_of_le h]
  simp
theorem padTo_pad (L : List UInt8) (m n : Nat) (h : m ≤ n) : padTo (padTo L m) n = padTo L n := by
  unfold padTo
  rw [List.append_assoc, List.length_append, List.length_replicate, List.replicate_append_replicate]
  congr 2
  omega
theorem splice_append (L Z : List UInt8) (off : Nat) (s : ByteArray) (h : off + s.size ≤ L.length) : spliceB (L ++ Z) off s = spliceB L off s ++ Z := by
  unfold spliceB splice
  rw [len_eq, List.take_append_of_le_length (by omega), List.drop_append_of_le_length (by omega)]
  simp
theorem laidL_length (L : List UInt8) (x : Wr) : (laidL L x).length = grow L.length x := by
  unfold laidL grow
  by_cases hw : wk x = true
  · rw [if_pos hw, if_pos hw]
    unfold spliceB
    rw [length_splice _ _ _ (by rw [len_eq, padTo_length]; split <;> omega), padTo_length]
  · rw [if_neg hw, if_neg hw]
theorem over_pad (L : List UInt8) (x : Wr) (N : Nat) (hN : grow L.length x ≤ N) : over (padTo L N) x = padTo (laidL L x) N := by
  unfold over laidL
  by_cases hw : wk x = true
  · rw [if_pos hw, if_pos hw]
    have hg : grow L.length x = if L.length < x.pos.toNat + x.bytes.size then x.pos.toNat + x.bytes.size else L.length := by unfold grow; rw [if_pos hw]
    have hM : x.pos.toNat + x.bytes.size ≤ N := by rw [hg] at hN; split at hN <;> omega
    have hpl := padTo_length L (x.pos.toNat + x.bytes.size)
    rw [← padTo_pad L (x.pos.toNat + x.bytes.size) N hM]
    have hsl : (spliceB (padTo L (x.pos.toNat + x.bytes.size)) x.pos.toNat x.bytes).length = (padTo L (x.pos.toNat + x.bytes.size)).length := by
      unfold spliceB
      exact length_splice _ _ _ (by rw [len_eq, hpl]; split <;> omega)
    conv => lhs; rw [padTo]
    conv => rhs; rw [padTo]
    rw [splice_append _ _ _ _ (by rw [hpl]; split <;> omega), hsl]
  · rw [if_neg hw, if_neg hw]
theorem overAll_pad (l : List Wr) : ∀ (L : List UInt8) (N : Nat), sizeUp L.length l ≤ N → overAll (padTo L N) l = padTo (l.foldl laidL L) N := by
  induction l with
  | nil => intro L N _; rfl
  | cons x l ih =>
    intro L N hN
    have hN' : sizeUp (grow L.length x) l ≤ N := hN
    show overAll (over (padTo L N) x) l = padTo (l.foldl laidL (laidL L x)) N
    rw [over_pad L x N (Nat.le_trans (sizeUp_ge _ _) hN'), ih _ N (by rw [laidL_length]; exact hN')]
theorem fold_length (l : List Wr) : ∀ L : List UInt8, (l.foldl laidL L).length = sizeUp L.length l := by
  induction l with
  | nil => intro L; rfl
  | cons x l ih =>
    intro L
    show (l.foldl laidL (laidL L x)).length = sizeUp (grow L.length x) l
    rw [ih, laidL_length]
theorem splice_zeros (s : ByteArray) (N : Nat) : spliceB (List.replicate N 0) 0 s = padTo s.data.toList N := by
  unfold spliceB splice padTo
  rw [List.take_zero, List.nil_append, List.drop_replicate, Nat.zero_add]
theorem laidB_list (s : ByteArray) (x : Wr) : (laidB s x).data.toList = laidL s.data.toList x := rfl
theorem layB_fold (s : ByteArray) (l : List Wr) : layB s l = l.foldl laidB s := by
  have hf : ∀ (m : List Wr) (t : ByteArray), (m.foldl laidB t).data.toList = m.foldl laidL t.data.toList := by
    intro m
    induction m with
    | nil => intro t; rfl
    | cons x m ih => intro t; exact ih (laidB t x)
  unfold layB
  split
  · rename_i h
    rw [List.eq_nil_of_length_eq_zero h]
    rfl
  · have e1 : overAll (spliceB (List.replicate (sizeUp s.size l) 0) 0 s) l = l.foldl laidL s.data.toList := by
      rw [splice_zeros s _]
      have h := overAll_pad l s.data.toList (sizeUp s.size l) (by rw [len_eq]; exact Nat.le_refl _)
      rw [h, padTo_ge _ _ (by rw [fold_length, len_eq]; exact Nat.le_refl _)]
    rw [e1, ← hf]
theorem laidB_idle (s : ByteArray) (x : Wr) (h : wk x = false) : laidB s x = s := by
  unfold laidB laidL
  rw [h]
  rfl
theorem laidB_size (s : ByteArray) (x : Wr) : (laidB s x).size = grow s.size x := by
  have h := laidL_length s.data.toList x
  rw [len_eq] at h
  rw [← h]
  show (laidL s.data.toList x).toArray.size = _
  rw [List.size_toArray]

def lenV : Value → Nat
  | .slice _ n _ => n
  | _ => 0
theorem wk_of {pos : Int} {b : ByteArray} (h0 : 0 ≤ pos) (h1 : pos ≤ 1048576) (h2 : 0 < b.size) : wk ⟨pos, b⟩ = true := by
  have h3 : b.toList.isEmpty = false := by
    rw [ByteArray.toList_eq, List.isEmpty_eq_false_iff, ← List.length_pos_iff, len_eq]
    exact h2
  simp [wk, worksB, h3, h0, h1]

set_option maxHeartbeats 1000000 in
theorem laid_any (s : ByteArray) (pos : Int) (b : ByteArray) (w : World) (hs : s.size ≤ 1099511627776) (hb : b.size ≤ 1099511627776) :
    Calls Try.prog 36 #[.string s, .int .i64 pos, .string b] w fun e w' => e = .returned (.string (laidB s ⟨pos, b⟩)) ∧ Below w.heap.size w w' := by
  by_cases h0 : pos < 0
  · have hid := laidB_idle s ⟨pos, b⟩ (by simp [wk, worksB]; omega)
    rw [hid]
    go_enter Try.func36, Try.ntmps36
    go_wp2
    go_ret
    exact ⟨rfl, Below.refl _ _⟩
  by_cases h1 : 1048576 < pos
  · have hid := laidB_idle s ⟨pos, b⟩ (by simp [wk, worksB]; omega)
    rw [hid]
    go_enter Try.func36, Try.ntmps36
    go_wp2
    go_ret
    exact ⟨rfl, Below.refl _ _⟩
  by_cases h2 : b.size = 0
  · have h3 : b.toList.isEmpty = true := by
      rw [ByteArray.toList_eq, List.isEmpty_iff, ← List.length_eq_zero_iff, len_eq]
      exact h2
    have hid := laidB_idle s ⟨pos, b⟩ (by simp [wk, worksB, h3])
    rw [hid]
    have hz : ((b.size : Int) == 0) = true := by simp [h2]
    go_enter Try.func36, Try.ntmps36
    go_wp2
    go_ret
    exact ⟨rfl, Below.refl _ _⟩
  obtain ⟨t, rfl⟩ := Int.eq_ofNat_of_zero_le (show 0 ≤ pos by omega)
  have hw : wk ⟨(t : Int), b⟩ = true := wk_of (by omega) (by omega) (by omega)
  have hres : laidB s ⟨(t : Int), b⟩ = ⟨(spliceB (padTo s.data.toList (t + b.size)) t b).toArray⟩ := by
    unfold laidB laidL
    rw [if_pos hw]
    rfl
  have HRES := Lib.hid hres
  clear hres hw
  obtain ⟨i0, hi, hz0, hz1, hz2⟩ := info_parts (show (Try.prog.info? 5).map (fun i => (i.zero, i.size, i.bytes)) = some (some (.int .u8 0), 1, 1) by kernel_rfl)
  obtain ⟨cap, w1, hcv, hrow, hg1⟩ := run_bytes_row (P := Try.prog) w s 9 69 Try.underlying9 Try.underlying69 Try.underlying5
  have hsl : s.data.toList.length = s.size := len_eq s
  have HROW := Lib.hid hrow
  have hbw : Below w.heap.size w w1 := grown_below hg1
  have HBW := Lib.hid hbw
  have hlt1 : w.heap.size < w1.heap.size := hrow.lt
  have hzf : ((b.size : Int) == 0) = false := by rw [beq_eq_false_iff_ne]; omega
  clear hrow hg1 hbw
  go_enter Try.func36, Try.ntmps36
  go_wp2_with fail
  go_loopw [7] (fun u wr => ∃ (g cap : Nat) (k : Nat) (L : List UInt8), u = .slice (some ⟨g, 0, none⟩) L.length cap ∧ Hid (L = s.data.toList ++ List.replicate k 0) ∧ (k = 0 ∨ L.length ≤ t + b.size) ∧ L.length ≤ 4398046511104 ∧ Hid (RowB wr g cap L) ∧ w.heap.size ≤ g ∧ Hid (Below w.heap.size w wr)) (fun u _ => t + b.size - lenV u)
  case atStart => exact ⟨w.heap.size, cap, 0, s.data.toList, by rw [hsl], by show _ = _; simp, .inl rfl, by omega, HROW, Nat.le_refl _, HBW⟩
  case round =>
    obtain ⟨g, cp, k, L, rfl, hL, hk, hL2, hr, hgg, hbl⟩ := hrel
    have hglt := hr.out.lt
    have hlc : L.length ≤ cp := by obtain ⟨_, _, _, _, _, h, _⟩ := hr.out; exact h
    have hlen : L.length = s.size + k := by have := congrArg List.length hL.out; rw [List.length_append, List.length_replicate, hsl] at this; exact this
    have HLEN := Lib.hid hlen
    clear hlen
    by_cases hlt : L.length < t + b.size
    · have hra : ∀ a : Obj, RowB (wr.alloc a) g cp L := fun a => hr.out.of_eq (heap_alloc_old _ _ hglt)
      have HRA := Lib.hid hra
      clear hra
      go_wp2_with (at_builtin; refine wpList_append_byte rfl _ _ 69 rfl i0 (.int .u8 0) Try.underlying69 hi hz0 hz1 hz2 rfl g cp L rfl ?c1 ⟨wr.heap.size, 0, none⟩ 0 rfl ?c2 ?c3 ?_; rotate_right 1; intro g' cap' w5 hr5 hg5 hgr5)
      case c1 => exact HRA.out _
      case c2 => simp
      case c3 => omega
      go_roundw
      case rel =>
        refine ⟨g', cap', k + 1, L ++ [0], by simp, ?_, .inr (by simp; omega), by simp; omega, hr5, ?_, ?_⟩
        · show _ = _
          rw [hL.out, List.replicate_succ', List.append_assoc]
        · rcases hg5 with rfl | hg5
          · exact hgg
          · have := hbl.out.size; simp at hg5; omega
        · exact (hbl.out.alloc hbl.out.size _).grown hgr5 (by have := hbl.out.size; simp; omega) fun k hk => by cases hk; exact hgg
      case measure => simp [lenV]; omega
    · have hLp : L = padTo s.data.toList (t + b.size) := by
        have := HLEN.out
        rw [hL.out]
        unfold padTo
        rw [hsl]
        congr 2
        omega
      have HLP := Lib.hid hLp
      have htl : t ≤ L.length := by omega
      have htn : ¬ L.length = t := by omega
      clear hLp
      go_wp2_with (with_reducible refine wpList_copy_into (o := ⟨some 36, _, _, _, _, _⟩) rfl (.tmp 34) (.tmp 35) 69 9 rfl Try.underlying69 (by kernel_rfl) g cp t b L (cp - t) rfl rfl ?d1 ?d2 ?_; rotate_right 1; intro w6 hr6 hg6; have hcv2 := run_row_string (P := Try.prog) w6 69 9 g cp _ Try.underlying69 Try.underlying5 Try.underlying9 hr6.out; rw [show (spliceB L t b).length = L.length from (by unfold spliceB; exact length_splice _ _ _ (by rw [len_eq]; omega))] at hcv2)
      case d1 => exact hr.out
      case d2 => omega
      go_ret
      refine ⟨ret_string (by rw [HRES.out, ← HLP.out]), hbl.out.grown hg6 hbl.out.size fun k hk => by cases hk; exact hgg⟩
end Go.Proofs.Ytfpdfhncifcghaa
