/- Unpack. Unpack, its walk. -/
import Derived.Test.YtgflnfmnjlmenaaYZE
namespace Go.Proofs.Ytgflnfmnjlmenaa
open Go.RowKit Go.Deep Go.Joins
set_option maxRecDepth 100000
/-- The field that a string begins with. -/
def firstF (s : ByteArray) : Option ByteArray := if 4 ≤ s.size ∧ rd4 s 0 ≤ 131072 ∧ 4 + rd4 s 0 ≤ s.size then some (s.extract 4 (4 + rd4 s 0)) else none
theorem firstF_size {s f : ByteArray} (h : firstF s = some f) : 4 + f.size ≤ s.size ∧ f.size ≤ 131072 ∧ f.size = rd4 s 0 ∧ f = s.extract 4 (4 + rd4 s 0) := by
  unfold firstF at h
  split at h
  · rename_i hh
    simp only [Option.some.injEq] at h
    subst h
    rw [ByteArray.size_extract]
    refine ⟨by omega, by omega, by omega, rfl⟩
  · cases h
def FfR (s : ByteArray) (W : World) (e : Ending) (W' : World) : Prop := e = .returned (match firstF s with | some f => .tuple #[.string f, .bool true] | none => .tuple #[.string ⟨#[]⟩, .bool false]) ∧ Below W.heap.size W W'
theorem first_short (s : ByteArray) (W : World) (h : ¬ 4 ≤ s.size) : Calls Try.prog 25 #[.string s] W (FfR s W) := by
  have HN := Lib.hid (show firstF s = none from by unfold firstF; rw [if_neg (by omega)])
  go_enter Try.func25, Try.ntmps25
  go_wp2
  go_ret2
  exact ⟨by rw [HN.out]; rfl, Below.refl _ _⟩
set_option maxHeartbeats 1000000 in
theorem first_any (s : ByteArray) (W : World) (hs : s.size ≤ 1048576) : Calls Try.prog 25 #[.string s] W (FfR s W) := by
  by_cases h4 : 4 ≤ s.size
  · have C := Lib.hid (fun w => rd_any s w h4)
    have hlt := rd4_lt s 0
    obtain ⟨n, hn⟩ : ∃ n, n = rd4 s 0 := ⟨_, rfl⟩
    rw [← hn] at C hlt
    have HN := Lib.hid hn
    by_cases h1 : n ≤ 131072
    · have g1 : decide ((131072 : Int) < (n : Int)) = false := decide_eq_false (by omega)
      have g3 : IntKind.i64.wrap (n : Int) = n := IntWalk.i64_in _ (by omega)
      by_cases h2 : 4 + n ≤ s.size
      · have HR := Lib.hid (show firstF s = some (s.extract 4 (4 + n)) from by unfold firstF; rw [← HN.out, if_pos ⟨h4, h1, h2⟩])
        have g2 : decide ((s.size : Int) - 4 < (n : Int)) = false := decide_eq_false (by omega)
        obtain ⟨m, hm⟩ : ∃ m, m = 4 + n := ⟨_, rfl⟩
        rw [← hm] at HR h2
        have g5 : 4 + (n : Int) = (m : Int) := by omega
        have g6 : (4 : Int) ≤ (m : Int) := by omega
        have g7 : (m : Int) ≤ (s.size : Int) := by omega
        have g8 : 4 ≤ m := by omega
        clear hn hm
        go_enter Try.func25, Try.ntmps25
        go_wp2_with (first | (go_at_call 24; (with_reducible refine (C.out _).mono ?_); rintro e w2 ⟨rfl, kk⟩) | fail)
        go_ret2
        exact ⟨by rw [HR.out]; rfl, kk⟩
      · have HR := Lib.hid (show firstF s = none from by unfold firstF; rw [← HN.out, if_neg (by omega)])
        have g2 : decide ((s.size : Int) - 4 < (n : Int)) = true := decide_eq_true (by omega)
        clear hn
        go_enter Try.func25, Try.ntmps25
        go_wp2_with (first | (go_at_call 24; (with_reducible refine (C.out _).mono ?_); rintro e w2 ⟨rfl, kk⟩) | fail)
        go_ret2
        exact ⟨by rw [HR.out]; rfl, kk⟩
    · have g1 : decide ((131072 : Int) < (n : Int)) = true := decide_eq_true (by omega)
      have HR := Lib.hid (show firstF s = none from by unfold firstF; rw [← HN.out, if_neg (by omega)])
      clear hn
      go_enter Try.func25, Try.ntmps25
      go_wp2_with (first | (go_at_call 24; (with_reducible refine (C.out _).mono ?_); rintro e w2 ⟨rfl, kk⟩) | fail)
      go_ret2
      exact ⟨by rw [HR.out]; rfl, kk⟩
  · exact first_short s W h4
def unF : Nat → ByteArray → Option (List ByteArray)
  | 0, r => if r.size = 0 then some [] else none
  | n + 1, r => match firstF r with
    | some f => (unF n (r.extract (4 + f.size) r.size)).map (f :: ·)
    | none => none
def unpackF (s : ByteArray) : Option (List ByteArray) := if 4 ≤ s.size ∧ s.size ≤ 1048576 ∧ rd4 s 0 ≤ 1024 then unF (rd4 s 0) (s.extract 4 s.size) else none
def UnR (s : ByteArray) (W : World) (e : Ending) (W' : World) : Prop :=
  match unpackF s with
  | none => e = .returned (.tuple #[.slice none 0 0, .int .i64 3]) ∧ Below W.heap.size W W'
  | some L => ∃ q c, e = .returned (.tuple #[.slice q L.length c, .int .i64 0]) ∧ OwnF W' W.heap.size (.slice q L.length c) L ∧ Below W.heap.size W W'
theorem un_no {s : ByteArray} {W W' : World} {e : Ending} (h : unpackF s = none) (he : e = .returned (.tuple #[.slice none 0 0, .int .i64 3])) (hb : Below W.heap.size W W') : UnR s W e W' := by
  unfold UnR; rw [h]; exact ⟨he, hb⟩
theorem un_yes {s : ByteArray} {W W' : World} {e : Ending} {L : List ByteArray} (h : unpackF s = some L) {q : Option Addr} {c : Nat} (he : e = .returned (.tuple #[.slice q L.length c, .int .i64 0])) (ho : OwnF W' W.heap.size (.slice q L.length c) L) (hb : Below W.heap.size W W') : UnR s W e W' := by
  unfold UnR; rw [h]; exact ⟨q, c, he, ho, hb⟩
structure UnAt (W w : World) (s : ByteArray) (v : Value) (L : List ByteArray) (m : Nat) (r : ByteArray) : Prop where
  below : Below W.heap.size W w
  own : OwnF w W.heap.size v L
  len : L.length ≤ 1024
  size : r.size ≤ 1048576
  told : unpackF s = (unF m r).map (L ++ ·)
theorem UnAt.next {W w w' : World} {s : ByteArray} {v : Value} {L : List ByteArray} {m : Nat} {r : ByteArray} (h : UnAt W w s v L m r) (hb : Below w.heap.size w w') : UnAt W w' s v L m r := ⟨below_then h.below hb, owns_below h.own hb, h.len, h.size, h.told⟩
theorem UnAt.no {W w : World} {s : ByteArray} {v : Value} {L : List ByteArray} {m : Nat} {r : ByteArray} (h : UnAt W w s v L (m + 1) r) (hn : firstF r = none) : unpackF s = none := by
  rw [h.told]; unfold unF; rw [hn]; rfl
theorem UnAt.more {W w : World} {s : ByteArray} {v : Value} {L : List ByteArray} {m : Nat} {r f : ByteArray} (h : UnAt W w s v L (m + 1) r) (hf : firstF r = some f) (hl : L.length < 1024) :
    ∃ q c w', (Builtin.append_ #[28, 28] 28 #[v, .slice (some ⟨w.heap.size, 0, none⟩) 1 1]).run Try.prog (w.alloc (.cells #[.string f] 9)) = .ok (.slice q (L ++ [f]).length c) w' ∧ UnAt W w' s (.slice q (L ++ [f]).length c) (L ++ [f]) m (r.extract (4 + f.size) r.size) := by
  have k := h.next (below1 w (.cells #[.string f] 9))
  have hr : FAt (w.alloc (.cells #[.string f] 9)) (.slice (some ⟨w.heap.size, 0, none⟩) 1 1) [f] := by
    have := World.ownsRow_lit (base := 0) (e := 9) (size := 1) w #[.string f] 1 (Nat.zero_le _) (by unfold maxLen; omega) rfl
    exact reads_of_owns this
  obtain ⟨q, c, w', hrun, ho, ht⟩ := app_f k.own hr (by simp; omega) k.below.size 28
  refine ⟨q, c, w', hrun, app_below k.below k.own ht, ho, by simp; omega, by rw [ByteArray.size_extract]; have := h.size; omega, ?_⟩
  rw [h.told]
  conv => lhs; unfold unF
  rw [hf]
  simp [Option.map_map, Function.comp_def]
end Go.Proofs.Ytgflnfmnjlmenaa
namespace Go.Proofs.Ytgflnfmnjlmenaa
open Go.RowKit Go.Deep Go.Joins
set_option maxRecDepth 100000
theorem unpack_far (s : ByteArray) (W : World) (hs : s.size ≤ 9223372036854775807) (h : ¬ (4 ≤ s.size ∧ s.size ≤ 1048576)) : Calls Try.prog 12 #[.string s] W (UnR s W) := by
  have HN := Lib.hid (show unpackF s = none from by unfold unpackF; rw [if_neg (fun x => h ⟨x.1, x.2.1⟩)])
  by_cases h4 : 4 ≤ s.size
  · have h5 : 1048576 < s.size := by omega
    clear h
    go_enter Try.func12, Try.ntmps12
    go_wp2
    go_ret2
    exact un_no HN.out rfl (Below.refl _ _)
  · clear h
    go_enter Try.func12, Try.ntmps12
    go_wp2
    go_ret2
    exact un_no HN.out rfl (Below.refl _ _)
set_option maxHeartbeats 1000000 in
theorem unpack_many (s : ByteArray) (W : World) (h4 : 4 ≤ s.size) (h5 : s.size ≤ 1048576) (h : 1024 < rd4 s 0) : Calls Try.prog 12 #[.string s] W (UnR s W) := by
  have HN := Lib.hid (show unpackF s = none from by unfold unpackF; rw [if_neg (fun x => by omega)])
  have C := Lib.hid (fun w => rd_any s w h4)
  generalize rd4 s 0 = n at C h
  have h1 : (1024 : Int) < (n : Int) := by omega
  go_enter Try.func12, Try.ntmps12
  go_wp2_with (first | (go_at_call 24; (with_reducible refine (C.out _).mono ?_); rintro e w2 ⟨rfl, kk⟩) | fail)
  go_ret2
  exact un_no HN.out rfl kk
theorem UnAt.start {W w : World} {s r : ByteArray} {p : Option Addr} {n : Nat} (hb : Below W.heap.size W w) (ho : w.ownsRow W.heap.size 9 1 (.slice p 0 n) 0 []) (hr : r.size ≤ 1048576) (hu : unpackF s = unF n r) : UnAt W w s (.slice p 0 n) [] n r :=
  ⟨hb, ho, Nat.zero_le _, hr, by rw [hu]; simp⟩
set_option maxHeartbeats 4000000 in
theorem unpack_few (s : ByteArray) (W : World) (h4 : 4 ≤ s.size) (h5 : s.size ≤ 1048576) (h : rd4 s 0 ≤ 1024) : Calls Try.prog 12 #[.string s] W (UnR s W) := by
  have HU := Lib.hid (show unpackF s = unF (rd4 s 0) (s.extract 4 s.size) from by unfold unpackF; rw [if_pos ⟨h4, h5, h⟩])
  have C := Lib.hid (fun w => rd_any s w h4)
  generalize rd4 s 0 = n at C h HU
  have h1 : ¬ (1024 : Int) < (n : Int) := by omega
  have h6 : (4 : Int) ≤ (s.size : Int) := by omega
  obtain ⟨i0, hi, hz0, hz1, hz2⟩ := info9
  have MK := Lib.hid (fun w => make_c 9 28 i0 _ 16 Try.underlying28 hi hz0 hz1 hz2 rfl .u32 n (by omega) (by omega) w)
  have HS := Lib.hid (show (s.extract 4 s.size).size ≤ 1048576 from by rw [ByteArray.size_extract]; omega)
  clear hi hz0 hz1 hz2
  go_enter Try.func12, Try.ntmps12
  go_upto_region 7 with (first | (go_at_call 24; (with_reducible refine (C.out _).mono ?_); rintro e w2 ⟨rfl, kk⟩; obtain ⟨cs, hmk, hown⟩ := MK.out w2; have X := Lib.hid (show UnAt W (w2.alloc (.cells cs 9)) s (.slice (some ⟨w2.heap.size, 0, none⟩) 0 n) [] n (s.extract 4 s.size) from UnAt.start (below_then kk (below1 w2 _)) (owns_base hown kk.size) HS.out HU.out); clear hown kk) | fail)
  clear hmk
  generalize w2.alloc (.cells cs 9) = w3 at X ⊢
  generalize some (⟨w2.heap.size, 0, none⟩ : Addr) = q0 at X ⊢
  go_wp2_with fail
  generalize s.extract 4 s.size = r0 at X ⊢
  have HB := Lib.hid (And.intro h h5)
  clear h1 h6 h5 h4 HU
  go_loopw [5, 6, 26] (fun v r i wr => ∃ (L : List ByteArray) (q' : Option Addr) (c' : Nat) (rr : ByteArray), L.length ≤ n ∧ i = .int .u32 L.length ∧ v = .slice q' L.length c' ∧ r = .string rr ∧ RowKit.Hid (UnAt W wr s (.slice q' L.length c') L (n - L.length) rr)) (fun _ _ i _ => n - (intOf i).toNat)
  case atStart => exact ⟨[], q0, n, r0, Nat.zero_le _, rfl, rfl, rfl, X⟩
  case round =>
    obtain ⟨L, q', c', rr, hj, rfl, rfl, rfl, XX⟩ := hrel
    have hn := HB.out.1
    have hr := XX.out.size
    by_cases hlt : L.length < n
    · have hm : n - L.length = (n - (L.length + 1)) + 1 := by omega
      rw [hm] at XX
      have F1 := Lib.hid (fun w => first_any rr w hr)
      unfold FfR at F1
      cases hf : firstF rr with
      | none =>
        rw [hf] at F1
        have HN := Lib.hid (XX.out.no hf)
        clear hf
        go_wp2_with (first | (go_at_call 25; (with_reducible refine (F1.out _).mono ?_); rintro e w4 ⟨rfl, k4⟩) | fail)
        go_ret2
        exact un_no HN.out rfl (below_then XX.out.below k4)
      | some f =>
        rw [hf] at F1
        have hsz := firstF_size hf
        have HF := Lib.hid hf
        obtain ⟨m, hm4⟩ : ∃ m, m = 4 + f.size := ⟨_, rfl⟩
        have M := Lib.hid (fun w4 (k4 : Below wr.heap.size wr w4) => (XX.out.next k4).more HF.out (by omega))
        rw [← hm4] at M
        have g5 : 4 + (f.size : Int) = (m : Int) := by omega
        have g7 : (m : Int) ≤ (rr.size : Int) := by omega
        have g8 : m ≤ rr.size := by omega
        have hL1 : (L ++ [f]).length = L.length + 1 := by simp
        have HL1 := Lib.hid hL1
        clear hf hsz hm4 hL1
        generalize L ++ [f] = L2 at M HL1
        go_upto_region 13 with (first | (go_at_call 25; (with_reducible refine (F1.out _).mono ?_); rintro e w4 ⟨rfl, k4⟩; obtain ⟨q5, c5, w5, hr5, hx5⟩ := M.out w4 k4; have HR := Lib.hid hr5; have X5 := Lib.hid hx5; clear hr5 hx5) | fail)
        go_wp2_with (first | (at_builtin; (refine wpList_append_run rfl _ _ 28 rfl _ _ _ rfl rfl _ HR.out ?_)) | fail)
        go_round
        case rel => exact ⟨L2, q5, c5, rr.extract m rr.size, by rw [HL1.out]; omega, by rw [HL1.out]; go_num, rfl, rfl, by have h := X5; rw [← HL1.out] at h; exact h⟩
        case measure => simp [intOf]; omega
    · have hj2 : n - L.length = 0 := by omega
      rw [hj2] at XX
      by_cases h0 : rr.size = 0
      · have hU := Lib.hid (show unpackF s = some L from by rw [XX.out.told]; unfold unF; rw [if_pos h0]; simp)
        have hrr : rr = ⟨#[]⟩ := by cases rr with | mk a => simp at h0; rw [h0]; rfl
        subst hrr
        go_wp2_with fail
        go_ret2
        exact un_yes hU.out rfl XX.out.own XX.out.below
      · have hU := Lib.hid (show unpackF s = none from by rw [XX.out.told]; unfold unF; rw [if_neg h0]; rfl)
        have hin := in_none rr
        rw [decide_eq_true (show 0 < rr.size by omega)] at hin
        have e0 : rr.toList.isEmpty = false := by simpa using hin
        clear hin
        go_wp2_with fail
        go_ret2
        exact un_no hU.out rfl XX.out.below
theorem unpack_any (s : ByteArray) (W : World) (hs : s.size ≤ 9223372036854775807) : Calls Try.prog 12 #[.string s] W (UnR s W) := by
  by_cases h : 4 ≤ s.size ∧ s.size ≤ 1048576
  · by_cases h2 : rd4 s 0 ≤ 1024
    · exact unpack_few s W h.1 h.2 h2
    · exact unpack_many s W h.1 h.2 (by omega)
  · exact unpack_far s W hs h
end Go.Proofs.Ytgflnfmnjlmenaa
