/- The memory of Act; what an effect does. -/
import Derived.Test.YtjohcpokmdofkaaGreatDoorYDX
import Derived.Test.YtjohcpokmdofkaaGreatDoorYRP
import Derived.Test.YtjohcpokmdofkaaGreatDoorYRR
import Derived.Test.YtjohcpokmdofkaaGreatDoorYRD
namespace Go.Proofs.YtjohcpokmdofkaaGreatDoor
open Go.RowKit Go.Deep Go.Joins
abbrev ramC (dv mv : Value) (E : Int) : Array Value := #[dv, mv, .int .u64 E]
abbrev ramZC : Array Value := #[.slice none 0 0, .slice none 0 0, .int .u64 0]
abbrev ramZO : Obj := .cells ramZC 39
theorem size39 : (Tryz.prog.info? 39).map (·.size) = some 3 := by kernel_rfl
theorem ram_load {w : World} {g : Nat} {dv mv : Value} {E : Int} (h : w.heap[g]? = some (.cells (ramC dv mv E) 39 (0, 0))) : (Instr.loadAt 39 (.pointer (some ⟨g, 0, none⟩))).run Tryz.prog w = .ok (.agg (ramC dv mv E)) w := by
  simp only [Instr.loadAt, Instr.sureAddr, Sem.run_bind, Sem.run_pure, Result.andThen]
  exact run_loadVar_row w g 39 39 _ (0, 0) _ h Tryz.underlying39 rfl (by rw [size39]; rfl)
theorem ram_result {w : World} {g : Nat} {dv mv : Value} {E : Int} (h : w.heap[g]? = some (.cells (ramC dv mv E) 39 (0, 0))) : (loadVar 39 ⟨g, 0, none⟩).run Tryz.prog w = .ok (.agg (ramC dv mv E)) w :=
  run_loadVar_row w g 39 39 _ (0, 0) _ h Tryz.underlying39 rfl (by rw [size39]; rfl)
theorem ram_store {w : World} {g : Nat} {old : Array Value} {p q : Option Addr} {n m c d : Nat} {E : Int} (h : w.heap[g]? = some (.cells old 39 (0, 0))) (ho : old.size = 3) : (Instr.storeAt 39 (.pointer (some ⟨g, 0, none⟩)) (.agg (ramC (.slice p n c) (.slice q m d) E))).run Tryz.prog w = .ok () (w.setRow g (ramC (.slice p n c) (.slice q m d) E)) := by
  simp only [Instr.storeAt, Instr.sureAddr, Sem.run_bind, Sem.run_pure, Result.andThen]
  exact run_storeVar_row w g 39 39 _ _ h (by rw [size39]; rfl) (by rw [ho]; rfl) (by simp [Value.oneCell'])
theorem w_ram {w : World} {g : Nat} {old : Array Value} {p q : Option Addr} {n m c d : Nat} {E : Int} (h : w.heap[g]? = some (.cells old 39 (0, 0))) (hs : old.size = 3) {ops : Array Oper} {rest : List Oper} {o : Oper} {a : Act} {Q : Exit → Act → World → Prop} (hgd : o.guard = none) {t x : Operand} (ho : o.op = .store 39 t x) (hp : a.eval t = .pointer (some ⟨g, 0, none⟩)) (hx : a.eval x = .agg (ramC (.slice p n c) (.slice q m d) E))
    (hh : ∀ wy, wy = w.setRow g (ramC (.slice p n c) (.slice q m d) E) → wpList Tryz.prog ops Q rest (a.put o.dst undef) wy) : wpList Tryz.prog ops Q (o :: rest) a w :=
  wpList_store_by hgd ho (ram_store h hs) hp hx (hh _ rfl)
theorem Mem.newR {W w : World} {l : List (Nat × Array Value × Nat)} {r : List (Nat × Value × Nat × List Value)} (h : Mem W w l r) : Mem W (w.alloc ramZO) ((w.heap.size, ramZC, 39) :: l) r := h.new _ 39 (by decide)
theorem calls_mem {f : FuncId} {args : Array Value} {w : World} {D : List UInt8} {M : List Int} {E : Int} (h : Calls Tryz.prog f args w (CopyMem w D M E)) : Calls Tryz.prog f args w fun e w' => ∃ u, e = .returned u ∧ (∃ p c q d, u = .agg (ramC (.slice p D.length c) (.slice q M.length d) E) ∧ w'.ownsRow w.heap.size 5 1 (.slice p D.length c) D.length (dC D) ∧ w'.ownsRow w.heap.size 22 1 (.slice q M.length d) M.length (mC M) ∧ Below w.heap.size w w') :=
  h.mono fun _ _ ⟨dv, mv, he, hd, hm, hb⟩ => by
    obtain ⟨p, c, rfl⟩ := owns_shape hd
    obtain ⟨q, d, rfl⟩ := owns_shape hm
    exact ⟨_, he, p, c, q, d, rfl, hd, hm, hb⟩
theorem results_act {fn : Func} {p u x y : Tmp} (h : fn.results = #[.cell p 35, .cell u 39, .tmp x, .tmp y]) (tmps : Array Value) (w : World) (g e : Nat) (k : Bd) (dv mv : Value) (E : Int) (s t : Value) (hp : tmps.getD p undef = .pointer (some ⟨g, 0, none⟩)) (hg : Box w g k) (hu : tmps.getD u undef = .pointer (some ⟨e, 0, none⟩)) (he : w.heap[e]? = some (.cells (ramC dv mv E) 39 (0, 0))) (hx : tmps.getD x undef = s) (hy : tmps.getD y undef = t) :
    (results fn tmps).run Tryz.prog w = .ok (.tuple #[bdV k, .agg (ramC dv mv E), s, t]) w := by
  have hp' : tmps[p]?.getD undef = .pointer (some ⟨g, 0, none⟩) := by simpa using hp
  have hu' : tmps[u]?.getD undef = .pointer (some ⟨e, 0, none⟩) := by simpa using hu
  have hx' : tmps[x]?.getD undef = s := by simpa using hx
  have hy' : tmps[y]?.getD undef = t := by simpa using hy
  simp [results, h, hp', hu', hx', hy', asAddr, Box.result hg, ram_result he]
/-- The memory of Act as it begins. -/
theorem act_start (W : World) (b : Bd) (p q : Option Addr) (n m c d : Nat) (E k : Int) (s : ByteArray) : Mem W (((((W.alloc (bdO b)).alloc (.cells (ramC (.slice p n c) (.slice q m d) E) 39)).alloc (.cells #[.int .i64 k, .string s] 148)).alloc zeroO).alloc ramZO)
    [(W.heap.size + 1 + 1 + 1 + 1, ramZC, 39), (W.heap.size + 1 + 1 + 1, bdC bdZ, 35), (W.heap.size + 1 + 1, #[.int .i64 k, .string s], 148), (W.heap.size + 1, ramC (.slice p n c) (.slice q m d) E, 39), (W.heap.size, bdC b, 35)] [] := by
  have h := (((((Mem.start W).new (bdC b) 35 (by decide)).new (ramC (.slice p n c) (.slice q m d) E) 39 (by decide)).new #[.int .i64 k, .string s] 148 (by decide)).newZ).newR
  simp only [World.size_alloc] at h
  exact h
theorem DAt.of {w : World} {B : Nat} {v : Value} {D : List UInt8} (h : w.ownsRow B 5 1 v D.length (dC D)) : DAt w v D := reads_of_owns h
theorem MAt.of {w : World} {B : Nat} {v : Value} {M : List Int} (h : w.ownsRow B 22 1 v M.length (mC M)) : MAt w v M := reads_of_owns h
theorem calls_put {W w : World} {z : Nat} {dv mv : Value} {E : Int} {D : List UInt8} {M : List Int} {l : List (Nat × Array Value × Nat)} {r : List (Nat × Value × Nat × List Value)} (X : Mem W w ((z, ramC dv mv E, 39) :: l) ((22, mv, M.length, mC M) :: (5, dv, D.length, dC D) :: r)) (hr : ∀ y ∈ r, y.1 = 9) (t : Int) (s : ByteArray) (ht0 : 0 ≤ t) (ht1 : t ≤ 18446744073709551615) (hs : s.size ≤ 9223372036854775807) :
    Calls Tryz.prog 138 #[.pointer (some ⟨z, 0, none⟩), .int .u64 t, .string s] w fun e w' => ∃ u, e = .returned u ∧ (u = .bool (putB D.length t s) ∧ Mem W w' ((z, ramC dv mv E, 39) :: l) ((22, mv, (putM D.length M E t s).length, mC (putM D.length M E t s)) :: (5, dv, (putD D t s).length, dC (putD D t s)) :: r)) := by
  have od : OwnD w W.heap.size dv D := X.r1
  have om : OwnM w W.heap.size mv M := X.r0
  refine (put_any z 0 W.heap.size dv mv E t D M s w (RamVar.at X.g0) od om ht0 ht1 hs).mono ?_
  rintro e w' ⟨he, hp⟩
  refine ⟨_, he, rfl, ?_⟩
  have nb : ∀ x ∈ (z, ramC dv mv E, 39) :: l, ¬ PutS dv mv x.1 := fun x hx hS => by
    have ht := X.typ x hx
    rcases hS with h | h
    · exact not_at od (X.cel x hx) (fun e => absurd ht (by rw [← e]; decide)) h.symm
    · exact not_at om (X.cel x hx) (fun e => absurd ht (by rw [← e]; decide)) h.symm
  refine ⟨fun x hx => (hp.t.block _ ((Array.getElem?_eq_some_iff.1 (X.cel x hx)).1) (nb x hx)).trans (X.cel x hx), X.nod, X.typ, X.big, fun y hy => ?_, fun y hy => ?_, Touch.below X.below hp.t (fun k hk => ?_) X.below.size⟩
  · rcases List.mem_cons.1 hy with rfl | hy
    · exact hp.m
    · rcases List.mem_cons.1 hy with rfl | hy
      · exact hp.d
      · have hy9 := hr y hy
        have oy := X.own y (List.mem_cons_of_mem _ (List.mem_cons_of_mem _ hy))
        exact owns_touch oy hp.t fun g hg hS => by
          rcases hS with h | h
          · exact rows_apart oy od (by rw [hy9]; decide) hg h.symm
          · exact rows_apart oy om (by rw [hy9]; decide) hg h.symm
  · rcases List.mem_cons.1 hy with rfl | hy
    · exact (by decide : (22 : Nat) < 33)
    · rcases List.mem_cons.1 hy with rfl | hy
      · exact (by decide : (5 : Nat) < 33)
      · exact X.row y (List.mem_cons_of_mem _ (List.mem_cons_of_mem _ hy))
  · rcases hk with h | h
    · exact (owns_lt od h.symm).1
    · exact (owns_lt om h.symm).1
/-- The bytes of the sector that is chosen. -/
def secS (b : Bd) (n : Nat) : ByteArray := b.sec.extract (64 * n) (64 * n + 64)
set_option maxRecDepth 100000 in
set_option maxHeartbeats 2000000 in
theorem sector_any (b : Bd) (n : Nat) (W : World) (hb : hasB b = true) (hn : b.sector = n) (h16 : n < 16) : Calls Tryz.prog 217 #[bdV b] W fun e W' => e = .returned (.string (secS b n)) ∧ Below W.heap.size W W' := by
  have hsz : b.sec.size = 1024 := by unfold hasB at hb; have := eq_of_beq hb; omega
  have c26 := Lib.hid (fun W => hb ▸ has_any b W)
  have X := Lib.hid (Box.new W b)
  have HB := Lib.hid (below1 W (bdO b))
  have k1 : IntKind.u64.wrap ((n : Int) * 64) = ((64 * n : Nat) : Int) := by rw [IntKind.wrap_u64]; omega
  have k2 : IntKind.u64.wrap (((64 * n : Nat) : Int) + 64) = ((64 * n + 64 : Nat) : Int) := by rw [IntKind.wrap_u64]; omega
  have k3 : 64 * n + 64 ≤ b.sec.size := by omega
  have HE := Lib.hid (show b.sec.extract (64 * n) (64 * n + 64) = secS b n from rfl)
  generalize hm2 : 64 * n + 64 = m2 at k2 k3 HE
  have k4 : 64 * n ≤ m2 := by omega
  clear hm2
  generalize 64 * n = m at k1 k2 HE k4
  have i0 : (0 : Int) ≤ m := by omega
  have i1 : (m : Int) ≤ m2 := by omega
  have i2 : (m2 : Int) ≤ b.sec.size := by omega
  have i3 : (0 : Int) ≤ m2 := by omega
  clear hsz hb h16
  go_enter Tryz.func217, Tryz.ntmps217
  go_upto_region 1 with (fail)
  generalize W.alloc (bdO b) = wx at X HB ⊢
  go_upto_region 3 with (first | (with_reducible refine wpList_load_by rfl rfl (Box.load X.out) rfl ?_) | (go_at_call 219; (with_reducible refine (c26.out _).mono ?_); rintro e w2 ⟨rfl, kk⟩; have X := Lib.hid (X.out.next kk); have HB := Lib.hid (below_then HB.out kk); clear kk) | fail)
  have m1 := X.out.cell_sector
  rw [hn] at m1
  have m2 := X.out.cell_sec
  generalize b.sec = sc at *
  go_wp2_with fail
  go_ret
  exact ⟨ret_string HE.out, HB.out⟩
/-- What the network card is to send. -/
def goV (D : List UInt8) (b : Bd) : ByteArray × Bool := if b.nicL < 1 ∨ 64 < b.nicL then (⟨#[]⟩, false) else (textS D b.nicA b.nicL, textE D.length b.nicA b.nicL == 0)
set_option maxRecDepth 100000 in
set_option maxHeartbeats 2000000 in
theorem go_low (b : Bd) (p q : Option Addr) (n m c d : Nat) (E : Int) (D : List UInt8) (W : World) (h : b.nicL < 1) : Calls Tryz.prog 220 #[bdV b, .agg (ramC (.slice p n c) (.slice q m d) E)] W fun e W' => e = .returned (.tuple #[.string (goV D b).1, .bool (goV D b).2]) ∧ Below W.heap.size W W' := by
  rw [show goV D b = (⟨#[]⟩, false) from if_pos (.inl h)]
  have h0 := ((Mem.start W).new (bdC b) 35 (by decide)).new (ramC (.slice p n c) (.slice q m d) E) 39 (by decide)
  rw [World.size_alloc] at h0
  have X := Lib.hid h0
  clear h0
  go_enter Tryz.func220, Tryz.ntmps220
  go_upto_region 1 with (fail)
  generalize (W.alloc (bdO b)).alloc (Obj.cells _ 39) = w0 at *
  have m1 := X.out.b1.cell_nicL
  go_wp2_with fail
  go_ret2
  exact ⟨rfl, X.out.below⟩
set_option maxRecDepth 100000 in
set_option maxHeartbeats 2000000 in
theorem go_high (b : Bd) (p q : Option Addr) (n m c d : Nat) (E : Int) (D : List UInt8) (W : World) (h1 : ¬ b.nicL < 1) (h : 64 < b.nicL) : Calls Tryz.prog 220 #[bdV b, .agg (ramC (.slice p n c) (.slice q m d) E)] W fun e W' => e = .returned (.tuple #[.string (goV D b).1, .bool (goV D b).2]) ∧ Below W.heap.size W W' := by
  rw [show goV D b = (⟨#[]⟩, false) from if_pos (.inr h)]
  have h0 := ((Mem.start W).new (bdC b) 35 (by decide)).new (ramC (.slice p n c) (.slice q m d) E) 39 (by decide)
  rw [World.size_alloc] at h0
  have X := Lib.hid h0
  clear h0
  go_enter Tryz.func220, Tryz.ntmps220
  go_upto_region 1 with (fail)
  generalize (W.alloc (bdO b)).alloc (Obj.cells _ 39) = w0 at *
  have m1 := X.out.b1.cell_nicL
  go_wp2_with fail
  go_ret2
  exact ⟨rfl, X.out.below⟩
set_option maxRecDepth 100000 in
set_option maxHeartbeats 2000000 in
theorem go_mid (b : Bd) (p q : Option Addr) (n m c d : Nat) (E : Int) (D : List UInt8) (W : World) (h1 : ¬ b.nicL < 1) (h : ¬ 64 < b.nicL) (ha : 0 ≤ b.nicA ∧ b.nicA ≤ 18446744073709551615) (hd : DAt W (.slice p n c) D) : Calls Tryz.prog 220 #[bdV b, .agg (ramC (.slice p n c) (.slice q m d) E)] W fun e W' => e = .returned (.tuple #[.string (goV D b).1, .bool (goV D b).2]) ∧ Below W.heap.size W W' := by
  rw [show goV D b = (textS D b.nicA b.nicL, textE D.length b.nicA b.nicL == 0) from if_neg (by omega)]
  have c36 := Lib.hid (fun w (h : DAt w (.slice p n c) D) => text_all (.slice p n c) D (.slice q m d) (.int .u64 E) b.nicA b.nicL w h ha.1 ha.2 (by omega) (by omega))
  have hw : IntKind.i64.wrap b.nicL = b.nicL := by rw [IntKind.wrap_i64]; omega
  have HD := Lib.hid (fun w (h : Below W.heap.size W w) => hd.below h)
  clear ha hd
  generalize textS D b.nicA b.nicL = ts at *
  generalize textE D.length b.nicA b.nicL = te at *
  have h0 := ((Mem.start W).new (bdC b) 35 (by decide)).new (ramC (.slice p n c) (.slice q m d) E) 39 (by decide)
  rw [World.size_alloc] at h0
  have X := Lib.hid h0
  clear h0
  go_enter Tryz.func220, Tryz.ntmps220
  go_upto_region 1 with (fail)
  generalize (W.alloc (bdO b)).alloc (Obj.cells _ 39) = w0 at *
  have m1 := X.out.b1.cell_nicL
  have m2 := X.out.b1.cell_nicA
  generalize b.nicL = nl at *
  generalize b.nicA = na at *
  go_wp2_with (first | (with_reducible refine wpList_load_by rfl rfl (ram_load X.out.g0) rfl ?_) | (go_at_call 218; (with_reducible refine (c36.out _ (HD.out _ X.out.below)).mono ?_); rintro e w2 ⟨rfl, kk⟩; have X := Lib.hid (X.out.next kk); clear kk) | fail)
  go_ret2
  exact ⟨rfl, X.out.below⟩
theorem outgoing_any (b : Bd) (p q : Option Addr) (n m c d : Nat) (E : Int) (D : List UInt8) (W : World) (ha : 0 ≤ b.nicA ∧ b.nicA ≤ 18446744073709551615) (hd : DAt W (.slice p n c) D) : Calls Tryz.prog 220 #[bdV b, .agg (ramC (.slice p n c) (.slice q m d) E)] W fun e W' => e = .returned (.tuple #[.string (goV D b).1, .bool (goV D b).2]) ∧ Below W.heap.size W W' := by
  by_cases h1 : b.nicL < 1
  · exact go_low b p q n m c d E D W h1
  · by_cases h2 : 64 < b.nicL
    · exact go_high b p q n m c d E D W h1 h2
    · exact go_mid b p q n m c d E D W h1 h2 ha hd
theorem own_head {w : World} {B c : Nat} {p : Option Addr} {F : List ByteArray} (h : w.ownsRow B 9 1 (.slice p F.length c) F.length (sC F)) (h0 : 0 < F.length) : ∃ g, p = some ⟨g, 0, none⟩ ∧ F.length ≤ c := by
  rcases h.2 with ⟨_, e⟩ | ⟨g, cap, cur, e, _, _, hn, _⟩
  · omega
  · simp only [Value.slice.injEq, true_and] at e
    exact ⟨g, e.1, by omega⟩
theorem own_cell {w : World} {B c g : Nat} {F : List ByteArray} (h : w.ownsRow B 9 1 (.slice (some ⟨g, 0, none⟩) F.length c) F.length (sC F)) (j : Nat) (hj : j < F.length) : w.cell? ⟨g, j, none⟩ = some (.string F[j]) := by
  have k := h.cells (g := g) rfl j (.string F[j]) (by simp [sC, hj])
  rwa [add_lit, Nat.zero_add] at k
theorem tail_fat {w : World} {B c g : Nat} {F : List ByteArray} (h : w.ownsRow B 9 1 (.slice (some ⟨g, 0, none⟩) F.length c) F.length (sC F)) (h0 : 0 < F.length) (hc : F.length ≤ c) (hm : c ≤ maxLen) : FAt w (.slice (some ⟨g, 1, none⟩) F.tail.length (c - 1)) F.tail := by
  refine ⟨by rw [sC_length, Nat.mul_one], .inr ⟨_, _, rfl, by rw [List.length_tail]; omega, by omega, fun j u hu => ?_⟩⟩
  have hj : j < F.tail.length := by have := (List.getElem?_eq_some_iff.1 hu).1; rwa [sC_length] at this
  have hj2 : 1 + j < F.length := by rw [List.length_tail] at hj; omega
  rw [add_lit, own_cell h (1 + j) hj2]
  unfold sC at hu
  rw [List.getElem?_map, List.getElem?_eq_getElem hj] at hu
  rw [← Option.some.inj hu, List.getElem_tail]
  congr 3
  omega
theorem tail_none {w : World} {g : Nat} {F : List ByteArray} (h : F.length = 1) : FAt w (.slice (some ⟨g, 0, none⟩) F.tail.length 0) F.tail := by
  have h0 : F.tail.length = 0 := by rw [List.length_tail]; omega
  refine ⟨by rw [sC_length, Nat.mul_one], .inr ⟨_, _, rfl, by omega, by unfold maxLen; omega, fun j u hu => ?_⟩⟩
  have hj := (List.getElem?_eq_some_iff.1 hu).1
  rw [sC_length] at hj
  omega
theorem own_max {w : World} {B c : Nat} {p : Option Addr} {F : List ByteArray} (h : w.ownsRow B 9 1 (.slice p F.length c) F.length (sC F)) (h0 : 0 < F.length) : c ≤ maxLen := by
  rcases h.2 with ⟨_, e⟩ | ⟨g, cap, cur, e, _, _, _, hm, _⟩
  · omega
  · simp only [Value.slice.injEq, true_and] at e
    omega
theorem Box.at_cell_sector {w : World} {g n c : Nat} {p : Option Addr} {b : Bd} (k : Box w g (b.at p n c)) : w.cell? ⟨g, 5, none⟩ = some (.int .u64 b.sector) := k.cell_sector
theorem Box.at_cell_bad {w : World} {g n c : Nat} {p : Option Addr} {b : Bd} (k : Box w g (b.at p n c)) : w.cell? ⟨g, 8, none⟩ = some (.bool b.bad) := k.cell_bad
theorem Box.at_cell_sec {w : World} {g n c : Nat} {p : Option Addr} {b : Bd} (k : Box w g (b.at p n c)) : w.cell? ⟨g, 4, none⟩ = some (.string b.sec) := k.cell_sec
theorem Box.at_cell_done {w : World} {g n c : Nat} {p : Option Addr} {b : Bd} (k : Box w g (b.at p n c)) : w.cell? ⟨g, 7, none⟩ = some (.bool b.done) := k.cell_done
theorem Box.at_cell_addr {w : World} {g n c : Nat} {p : Option Addr} {b : Bd} (k : Box w g (b.at p n c)) : w.cell? ⟨g, 6, none⟩ = some (.int .u64 b.addr) := k.cell_addr
theorem Box.at_sector {w : World} {g n c : Nat} {p : Option Addr} {b : Bd} (k : Box w g (b.at p n c)) : (Instr.loadAt 22 (.pointer (some ⟨g, 5, none⟩))).run Tryz.prog w = .ok (.int .u64 b.sector) w := k.load_sector
theorem Box.at_addr {w : World} {g n c : Nat} {p : Option Addr} {b : Bd} (k : Box w g (b.at p n c)) : (Instr.loadAt 22 (.pointer (some ⟨g, 6, none⟩))).run Tryz.prog w = .ok (.int .u64 b.addr) w := k.load_addr
theorem Box.at_nicA {w : World} {g n c : Nat} {p : Option Addr} {b : Bd} (k : Box w g (b.at p n c)) : (Instr.loadAt 22 (.pointer (some ⟨g, 10, none⟩))).run Tryz.prog w = .ok (.int .u64 b.nicA) w := k.load_nicA
theorem Box.at_nicL {w : World} {g n c : Nat} {p : Option Addr} {b : Bd} (k : Box w g (b.at p n c)) : (Instr.loadAt 22 (.pointer (some ⟨g, 11, none⟩))).run Tryz.prog w = .ok (.int .u64 b.nicL) w := k.load_nicL
theorem Box.at_sec {w : World} {g n c : Nat} {p : Option Addr} {b : Bd} (k : Box w g (b.at p n c)) : (Instr.loadAt 9 (.pointer (some ⟨g, 4, none⟩))).run Tryz.prog w = .ok (.string b.sec) w := k.load_sec
theorem Box.rd_fr {w : World} {g n c : Nat} {p : Option Addr} {b : Bd} (k : Box w g (b.at p n c)) : (Instr.loadAt 28 (.pointer (some ⟨g, 9, none⟩))).run Tryz.prog w = .ok (.slice p n c) w := k.load_fr
/-- Frames that lie in a block of strings of one's own (from block B on). -/
structure FT (w : World) (B : Nat) (v : Value) (F : List ByteArray) : Prop where
  rd : FAt w v F
  blk : ∀ p n c, v = .slice (some p) n c → B ≤ p.block ∧ ∃ cur, w.heap[p.block]? = some (.cells cur 9 (0, 0))
theorem Reads.keep {w w' : World} {v : Value} {size n : Nat} {cells : List Value} (h : Reads w v size n cells) (hb : ∀ p n c, v = .slice (some p) n c → w'.heap[p.block]? = w.heap[p.block]?) : Reads w' v size n cells := by
  obtain ⟨hl, h⟩ := h
  refine ⟨hl, ?_⟩
  rcases h with h | ⟨a, cap, hv, h1, h2, hc⟩
  · exact .inl h
  · refine .inr ⟨a, cap, hv, h1, h2, fun j u hu => ?_⟩
    have e := hb a n cap hv
    have k := hc j u hu
    have ej : (a.add j).block = a.block := by unfold Addr.add; split <;> rfl
    unfold World.cell? at k ⊢
    rw [ej] at k ⊢
    rw [e]
    exact k
theorem FT.keep {w w' : World} {B : Nat} {v : Value} {F : List ByteArray} (h : FT w B v F) (hb : ∀ g cur, B ≤ g → w.heap[g]? = some (.cells cur 9 (0, 0)) → w'.heap[g]? = w.heap[g]?) : FT w' B v F :=
  ⟨Reads.keep h.rd fun p n c hv => by obtain ⟨h1, cur, h2⟩ := h.blk p n c hv; exact hb _ cur h1 h2,
   fun p n c hv => by obtain ⟨h1, cur, h2⟩ := h.blk p n c hv; exact ⟨h1, cur, (hb _ cur h1 h2).trans h2⟩⟩
theorem FT.below {w w' : World} {B : Nat} {v : Value} {F : List ByteArray} (h : FT w B v F) (hb : Below w.heap.size w w') : FT w' B v F :=
  h.keep fun g _ _ hg => hb.block g (Array.getElem?_eq_some_iff.1 hg).1
theorem FT.base {w : World} {B B' : Nat} {v : Value} {F : List ByteArray} (h : FT w B v F) (hB : B' ≤ B) : FT w B' v F := ⟨h.rd, fun p n c e => ⟨Nat.le_trans hB (h.blk p n c e).1, (h.blk p n c e).2⟩⟩
theorem FT.of {w : World} {B : Nat} {v : Value} {F : List ByteArray} (h : w.ownsRow B 9 1 v F.length (sC F)) : FT w B v F :=
  ⟨reads_of_owns h, fun p n c hv => by
    rcases h.2 with ⟨e, _⟩ | ⟨g, cap, cur, e, hB, hg, _⟩
    · rw [e] at hv; cases hv
    · rw [e] at hv
      simp only [Value.slice.injEq, Option.some.injEq] at hv
      rw [← hv.1]
      exact ⟨hB, cur, hg⟩⟩
theorem ft_none (w : World) (B : Nat) : FT w B (.slice none 0 0) [] := ⟨⟨rfl, .inl ⟨rfl, rfl⟩⟩, fun _ _ _ e => by cases e⟩
theorem tail_ft {w : World} {B c g : Nat} {F : List ByteArray} (h : w.ownsRow B 9 1 (.slice (some ⟨g, 0, none⟩) F.length c) F.length (sC F)) (h0 : 0 < F.length) (hc : F.length ≤ c) (hm : c ≤ maxLen) : FT w B (.slice (some ⟨g, 1, none⟩) F.tail.length (c - 1)) F.tail :=
  ⟨tail_fat h h0 hc hm, fun p n c e => by
    obtain ⟨h1, cur, h2⟩ := (FT.of h).blk ⟨g, 0, none⟩ _ _ rfl
    simp only [Value.slice.injEq, Option.some.injEq] at e
    rw [← e.1]
    exact ⟨h1, cur, h2⟩⟩
theorem tail_ft0 {w : World} {B c g : Nat} {F : List ByteArray} (h : w.ownsRow B 9 1 (.slice (some ⟨g, 0, none⟩) F.length c) F.length (sC F)) (h1 : F.length = 1) : FT w B (.slice (some ⟨g, 0, none⟩) F.tail.length 0) F.tail :=
  ⟨tail_none h1, fun p n c e => by
    obtain ⟨h1, cur, h2⟩ := (FT.of h).blk ⟨g, 0, none⟩ _ _ rfl
    simp only [Value.slice.injEq, Option.some.injEq] at e
    rw [← e.1]
    exact ⟨h1, cur, h2⟩⟩
theorem Box.at_st_bad {w : World} {g n c : Nat} {p : Option Addr} {b : Bd} (k : Box w g (b.at p n c)) (v : Bool) : (Instr.storeAt 4 (.pointer (some ⟨g, 8, none⟩)) (.bool v)).run Tryz.prog w = .ok () (w.setRow g (bdC (({ b with bad := v } : Bd).at p n c))) := k.store_bad v
theorem Box.at_st_sec {w : World} {g n c : Nat} {p : Option Addr} {b : Bd} (k : Box w g (b.at p n c)) (v : ByteArray) : (Instr.storeAt 9 (.pointer (some ⟨g, 4, none⟩)) (.string v)).run Tryz.prog w = .ok () (w.setRow g (bdC (({ b with sec := v } : Bd).at p n c))) := k.store_sec v
/-- Where a board's sector and address are read. -/
def SA (g : Nat) (b : Bd) (w : World) : Prop := (Instr.loadAt 22 (.pointer (some ⟨g, 5, none⟩))).run Tryz.prog w = .ok (.int .u64 b.sector) w ∧ (Instr.loadAt 22 (.pointer (some ⟨g, 6, none⟩))).run Tryz.prog w = .ok (.int .u64 b.addr) w
theorem Box.sa {w : World} {g n c : Nat} {p : Option Addr} {b : Bd} (k : Box w g (b.at p n c)) : SA g b w := ⟨k.load_sector, k.load_addr⟩
theorem sector_no (b : Bd) (W : World) (hb : hasB b = false) : Calls Tryz.prog 217 #[bdV b] W fun e W' => e = .returned (.string ⟨#[]⟩) ∧ Below W.heap.size W W' := by
  have c26 := Lib.hid (fun W => hb ▸ has_any b W)
  have X := Lib.hid (Box.new W b)
  have HB := Lib.hid (below1 W (bdO b))
  clear hb
  go_enter Tryz.func217, Tryz.ntmps217
  go_upto_region 1 with (fail)
  generalize W.alloc (bdO b) = wx at X HB ⊢
  go_wp2_with (first | (with_reducible refine wpList_load_by rfl rfl (Box.load X.out) rfl ?_) | (go_at_call 219; (with_reducible refine (c26.out _).mono ?_); rintro e w2 ⟨rfl, kk⟩; have X := Lib.hid (X.out.next kk); have HB := Lib.hid (below_then HB.out kk); clear kk) | fail)
  go_ret
  exact ⟨rfl, HB.out⟩
/-- The sector that is chosen, of a board that has all sectors. -/
def secV (b : Bd) : ByteArray := if hasB b = true then secS b b.sector.toNat else ⟨#[]⟩
structure Acts where
  b : Bd
  F : List ByteArray
  D : List UInt8
  M : List Int
  s : ByteArray
  ok : Bool
/-- What an effect does. -/
def actF (b : Bd) (F : List ByteArray) (E : Int) (D : List UInt8) (M : List Int) (k : Int) (es : ByteArray) : Acts :=
  if k = 1 then ⟨b, F, D, M, es, true⟩
  else if k = 2 then
    if 16 ≤ b.sector then ⟨{ b with done := true, bad := true }, F, D, M, ⟨#[]⟩, false⟩
    else ⟨{ b with done := true, bad := !putB D.length b.addr (secV b) }, F, putD D b.addr (secV b), putM D.length M E b.addr (secV b), ⟨#[]⟩, false⟩
  else if k = 3 then
    if 16 ≤ b.sector ∨ textE D.length b.addr 64 ≠ 0 then ⟨{ b with done := true, bad := true }, F, D, M, ⟨#[]⟩, false⟩
    else if hasB b = true then ⟨{ b with done := true, bad := false, sec := (b.sec.extract 0 (64 * b.sector.toNat) ++ textS D b.addr 64) ++ b.sec.extract (64 * b.sector.toNat + 64) b.sec.size }, F, D, M, ⟨#[]⟩, false⟩
    else ⟨{ b with done := true, bad := false }, F, D, M, ⟨#[]⟩, false⟩
  else if k = 4 then
    if h : 0 < F.length then ⟨b, if putB D.length b.nicA F[0] = true then F.tail else F, putD D b.nicA F[0], putM D.length M E b.nicA F[0], ⟨#[]⟩, false⟩
    else ⟨b, F, D, M, ⟨#[]⟩, false⟩
  else if k = 5 then ⟨b, F, D, M, (goV D b).1, (goV D b).2⟩
  else ⟨b, F, D, M, ⟨#[]⟩, false⟩
theorem secV_at (b : Bd) (p : Option Addr) (n c : Nat) : secV (b.at p n c) = secV b := rfl
theorem sector_v (b : Bd) (W : World) (h0 : 0 ≤ b.sector) (h16 : b.sector < 16) : Calls Tryz.prog 217 #[bdV b] W fun e W' => e = .returned (.string (secV b)) ∧ Below W.heap.size W W' := by
  unfold secV
  rcases Bool.eq_false_or_eq_true (hasB b) with h | h
  · rw [if_pos h]
    exact sector_any b b.sector.toNat W h (by omega) (by omega)
  · rw [if_neg (by rw [h]; simp)]
    exact sector_no b W h
theorem secV_size (b : Bd) : (secV b).size ≤ 9223372036854775807 := by
  unfold secV
  split
  · rename_i h
    have hsz : b.sec.size = 1024 := by unfold hasB at h; have := eq_of_beq h; omega
    unfold secS
    simp
    omega
  · decide
def Acted (W : World) (E : Int) (r : Acts) (e : Ending) (W' : World) : Prop :=
  ∃ p c dv mv, e = .returned (.tuple #[bdV (r.b.at p r.F.length c), .agg (ramC dv mv E), .string r.s, .bool r.ok]) ∧ FT W' W.heap.size (.slice p r.F.length c) r.F ∧ OwnD W' W.heap.size dv r.D ∧ OwnM W' W.heap.size mv r.M ∧ Below W.heap.size W W'
/-- What the numbers of a board may be. -/
structure BdOk (b : Bd) : Prop where
  addr : 0 ≤ b.addr ∧ b.addr ≤ 18446744073709551615
  nicA : 0 ≤ b.nicA ∧ b.nicA ≤ 18446744073709551615
  sector : 0 ≤ b.sector ∧ b.sector ≤ 18446744073709551615

end Go.Proofs.YtjohcpokmdofkaaGreatDoor
