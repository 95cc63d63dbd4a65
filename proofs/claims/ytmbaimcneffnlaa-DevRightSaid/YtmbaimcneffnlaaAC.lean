/- Put in a memory of blocks; the sector; what is to be sent. -/
import Derived.Test.YtmbaimcneffnlaaAA
namespace Go.Proofs.Ytmbaimcneffnlaa
open Go.RowKit Go.Deep Go.Joins
theorem DAt.of {w : World} {B : Nat} {v : Value} {D : List UInt8} (h : w.ownsRow B 5 1 v D.length (dC D)) : DAt w v D := reads_of_owns h
theorem MAt.of {w : World} {B : Nat} {v : Value} {M : List Int} (h : w.ownsRow B 22 1 v M.length (mC M)) : MAt w v M := reads_of_owns h
theorem calls_put {W w : World} {z : Nat} {dv mv : Value} {E : Int} {D : List UInt8} {M : List Int} {l : List (Nat × Array Value × Nat)} {r : List (Nat × Value × Nat × List Value)} (X : Mem W w ((z, ramC dv mv E, 49) :: l) ((22, mv, M.length, mC M) :: (5, dv, D.length, dC D) :: r)) (hr : ∀ y ∈ r, y.1 = 9) (t : Int) (s : ByteArray) (ht0 : 0 ≤ t) (ht1 : t ≤ 18446744073709551615) (hs : s.size ≤ 9223372036854775807) :
    Calls Try.prog 34 #[.pointer (some ⟨z, 0, none⟩), .int .u64 t, .string s] w fun e w' => ∃ u, e = .returned u ∧ (u = .bool (putB D.length t s) ∧ Mem W w' ((z, ramC dv mv E, 49) :: l) ((22, mv, (putM D.length M E t s).length, mC (putM D.length M E t s)) :: (5, dv, (putD D t s).length, dC (putD D t s)) :: r)) := by
  have od : OwnD w W.heap.size dv D := X.r1
  have om : OwnM w W.heap.size mv M := X.r0
  refine (put_any z W.heap.size dv mv E t D M s w X.g0 od om ht0 ht1 hs).mono ?_
  rintro e w' ⟨he, hp⟩
  refine ⟨_, he, rfl, ?_⟩
  have nb : ∀ x ∈ (z, ramC dv mv E, 49) :: l, ¬ PutS dv mv x.1 := fun x hx hS => by
    have ht := X.typ x hx
    rcases hS with h | h
    · exact not_at od (X.cel x hx) (fun e => absurd ht (by rw [← e]; decide)) h.symm
    · exact not_at om (X.cel x hx) (fun e => absurd ht (by rw [← e]; decide)) h.symm
  refine ⟨fun x hx => (hp.t.block _ ((Array.getElem?_eq_some_iff.1 (X.cel x hx)).1) (nb x hx)).trans (X.cel x hx), X.nod, X.typ, X.big, fun y hy => ?_, fun y hy => ?_, Touch.below X.below hp.t (fun k hk => ?_) X.below.size⟩
  · rcases List.mem_cons.1 hy with rfl | hy
    · exact hp.m
    · rcases List.mem_cons.1 hy with rfl | hy
      · exact hp.d
      · have hy9 := hr y hy
        have oy := X.own y (List.mem_cons_of_mem _ (List.mem_cons_of_mem _ hy))
        exact owns_touch oy hp.t fun g hg hS => by
          rcases hS with h | h
          · exact rows_apart oy od (by rw [hy9]; decide) hg h.symm
          · exact rows_apart oy om (by rw [hy9]; decide) hg h.symm
  · rcases List.mem_cons.1 hy with rfl | hy
    · exact (by decide : (22 : Nat) < 28)
    · rcases List.mem_cons.1 hy with rfl | hy
      · exact (by decide : (5 : Nat) < 28)
      · exact X.row y (List.mem_cons_of_mem _ (List.mem_cons_of_mem _ hy))
  · rcases hk with h | h
    · exact (owns_lt od h.symm).1
    · exact (owns_lt om h.symm).1
/-- The bytes of the sector that is chosen. -/
def secS (b : Bd) (n : Nat) : ByteArray := b.sec.extract (64 * n) (64 * n + 64)
set_option maxRecDepth 100000 in
set_option maxHeartbeats 2000000 in
theorem sector_any (b : Bd) (n : Nat) (W : World) (hb : hasB b = true) (hn : b.sector = n) (h16 : n < 16) : Calls Try.prog 35 #[bdV b] W fun e W' => e = .returned (.string (secS b n)) ∧ Below W.heap.size W W' := by
  have hsz : b.sec.size = 1024 := by unfold hasB at hb; have := eq_of_beq hb; omega
  have c26 := Lib.hid (fun W => hb ▸ has_any b W)
  have X := Lib.hid (Box.new W b)
  have HB := Lib.hid (below1 W (bdO b))
  have k1 : IntKind.u64.wrap ((n : Int) * 64) = ((64 * n : Nat) : Int) := by rw [IntKind.wrap_u64]; omega
  have k2 : IntKind.u64.wrap (((64 * n : Nat) : Int) + 64) = ((64 * n + 64 : Nat) : Int) := by rw [IntKind.wrap_u64]; omega
  have k3 : 64 * n + 64 ≤ b.sec.size := by omega
  have HE := Lib.hid (show b.sec.extract (64 * n) (64 * n + 64) = secS b n from rfl)
  generalize hm2 : 64 * n + 64 = m2 at k2 k3 HE
  have k4 : 64 * n ≤ m2 := by omega
  clear hm2
  generalize 64 * n = m at k1 k2 HE k4
  have i0 : (0 : Int) ≤ m := by omega
  have i1 : (m : Int) ≤ m2 := by omega
  have i2 : (m2 : Int) ≤ b.sec.size := by omega
  have i3 : (0 : Int) ≤ m2 := by omega
  clear hsz hb h16
  go_enter Try.func35, Try.ntmps35
  go_upto_region 1 with (fail)
  generalize W.alloc (bdO b) = wx at X HB ⊢
  go_upto_region 3 with (first | (with_reducible refine wpList_load_by rfl rfl (Box.load X.out) rfl ?_) | (go_at_call 26; (with_reducible refine (c26.out _).mono ?_); rintro e w2 ⟨rfl, kk⟩; have X := Lib.hid (X.out.next kk); have HB := Lib.hid (below_then HB.out kk); clear kk) | fail)
  have m1 := X.out.cell_sector
  rw [hn] at m1
  have m2 := X.out.cell_sec
  generalize b.sec = sc at *
  go_wp2_with fail
  go_ret
  exact ⟨ret_string HE.out, HB.out⟩
/-- What the network card is to send. -/
def goV (D : List UInt8) (b : Bd) : ByteArray × Bool := if b.nicL < 1 ∨ 64 < b.nicL then (⟨#[]⟩, false) else (textS D b.nicA b.nicL, textE D.length b.nicA b.nicL == 0)
set_option maxRecDepth 100000 in
set_option maxHeartbeats 2000000 in
theorem go_low (b : Bd) (p q : Option Addr) (n m c d : Nat) (E : Int) (D : List UInt8) (W : World) (h : b.nicL < 1) : Calls Try.prog 37 #[bdV b, .agg (ramC (.slice p n c) (.slice q m d) E)] W fun e W' => e = .returned (.tuple #[.string (goV D b).1, .bool (goV D b).2]) ∧ Below W.heap.size W W' := by
  rw [show goV D b = (⟨#[]⟩, false) from if_pos (.inl h)]
  have h0 := ((Mem.start W).new (bdC b) 30 (by decide)).new (ramC (.slice p n c) (.slice q m d) E) 49 (by decide)
  rw [World.size_alloc] at h0
  have X := Lib.hid h0
  clear h0
  go_enter Try.func37, Try.ntmps37
  go_upto_region 1 with (fail)
  generalize (W.alloc (bdO b)).alloc (Obj.cells _ 49) = w0 at *
  have m1 := X.out.b1.cell_nicL
  go_wp2_with fail
  go_ret2
  exact ⟨rfl, X.out.below⟩
set_option maxRecDepth 100000 in
set_option maxHeartbeats 2000000 in
theorem go_high (b : Bd) (p q : Option Addr) (n m c d : Nat) (E : Int) (D : List UInt8) (W : World) (h1 : ¬ b.nicL < 1) (h : 64 < b.nicL) : Calls Try.prog 37 #[bdV b, .agg (ramC (.slice p n c) (.slice q m d) E)] W fun e W' => e = .returned (.tuple #[.string (goV D b).1, .bool (goV D b).2]) ∧ Below W.heap.size W W' := by
  rw [show goV D b = (⟨#[]⟩, false) from if_pos (.inr h)]
  have h0 := ((Mem.start W).new (bdC b) 30 (by decide)).new (ramC (.slice p n c) (.slice q m d) E) 49 (by decide)
  rw [World.size_alloc] at h0
  have X := Lib.hid h0
  clear h0
  go_enter Try.func37, Try.ntmps37
  go_upto_region 1 with (fail)
  generalize (W.alloc (bdO b)).alloc (Obj.cells _ 49) = w0 at *
  have m1 := X.out.b1.cell_nicL
  go_wp2_with fail
  go_ret2
  exact ⟨rfl, X.out.below⟩
set_option maxRecDepth 100000 in
set_option maxHeartbeats 2000000 in
theorem go_mid (b : Bd) (p q : Option Addr) (n m c d : Nat) (E : Int) (D : List UInt8) (W : World) (h1 : ¬ b.nicL < 1) (h : ¬ 64 < b.nicL) (ha : 0 ≤ b.nicA ∧ b.nicA ≤ 18446744073709551615) (hd : DAt W (.slice p n c) D) : Calls Try.prog 37 #[bdV b, .agg (ramC (.slice p n c) (.slice q m d) E)] W fun e W' => e = .returned (.tuple #[.string (goV D b).1, .bool (goV D b).2]) ∧ Below W.heap.size W W' := by
  rw [show goV D b = (textS D b.nicA b.nicL, textE D.length b.nicA b.nicL == 0) from if_neg (by omega)]
  have c36 := Lib.hid (fun w (h : DAt w (.slice p n c) D) => text_all (.slice p n c) D (.slice q m d) (.int .u64 E) b.nicA b.nicL w h ha.1 ha.2 (by omega) (by omega))
  have hw : IntKind.i64.wrap b.nicL = b.nicL := by rw [IntKind.wrap_i64]; omega
  have HD := Lib.hid (fun w (h : Below W.heap.size W w) => hd.below h)
  clear ha hd
  generalize textS D b.nicA b.nicL = ts at *
  generalize textE D.length b.nicA b.nicL = te at *
  have h0 := ((Mem.start W).new (bdC b) 30 (by decide)).new (ramC (.slice p n c) (.slice q m d) E) 49 (by decide)
  rw [World.size_alloc] at h0
  have X := Lib.hid h0
  clear h0
  go_enter Try.func37, Try.ntmps37
  go_upto_region 1 with (fail)
  generalize (W.alloc (bdO b)).alloc (Obj.cells _ 49) = w0 at *
  have m1 := X.out.b1.cell_nicL
  have m2 := X.out.b1.cell_nicA
  generalize b.nicL = nl at *
  generalize b.nicA = na at *
  go_wp2_with (first | (with_reducible refine wpList_load_by rfl rfl (ram_load X.out.g0) rfl ?_) | (go_at_call 36; (with_reducible refine (c36.out _ (HD.out _ X.out.below)).mono ?_); rintro e w2 ⟨rfl, kk⟩; have X := Lib.hid (X.out.next kk); clear kk) | fail)
  go_ret2
  exact ⟨rfl, X.out.below⟩
theorem outgoing_any (b : Bd) (p q : Option Addr) (n m c d : Nat) (E : Int) (D : List UInt8) (W : World) (ha : 0 ≤ b.nicA ∧ b.nicA ≤ 18446744073709551615) (hd : DAt W (.slice p n c) D) : Calls Try.prog 37 #[bdV b, .agg (ramC (.slice p n c) (.slice q m d) E)] W fun e W' => e = .returned (.tuple #[.string (goV D b).1, .bool (goV D b).2]) ∧ Below W.heap.size W W' := by
  by_cases h1 : b.nicL < 1
  · exact go_low b p q n m c d E D W h1
  · by_cases h2 : 64 < b.nicL
    · exact go_high b p q n m c d E D W h1 h2
    · exact go_mid b p q n m c d E D W h1 h2 ha hd

end Go.Proofs.Ytmbaimcneffnlaa
