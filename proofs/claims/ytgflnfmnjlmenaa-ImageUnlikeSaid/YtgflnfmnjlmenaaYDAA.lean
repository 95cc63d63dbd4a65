/- New of the reference. One result for both sides. The memory of Act; what an effect does. -/
import Derived.Test.YtgflnfmnjlmenaaYRD
import Derived.Test.YtgflnfmnjlmenaaYRC
import Derived.Test.YtgflnfmnjlmenaaYPA
import Derived.Test.YtgflnfmnjlmenaaYDVV
import Derived.Test.YtgflnfmnjlmenaaYDLZ
namespace Go.Proofs.Ytgflnfmnjlmenaa
open Go.RowKit Go.Deep Go.Joins
/-- New memory, the call's own. -/
def NewMem (w : World) (D : List UInt8) (M : List Int) (E er : Int) (e : Ending) (w' : World) : Prop :=
  ∃ dv mv, e = .returned (.tuple #[.agg #[dv, mv, .int .u64 E], .int .i64 er]) ∧ OwnD w' w.heap.size dv D ∧ OwnM w' w.heap.size mv M ∧ Below w.heap.size w w'
set_option maxHeartbeats 1000000 in
theorem rnew_ram (n : Int) (s : ByteArray) (w : World) (h : ¬ (1 ≤ n ∧ n ≤ 256)) :
    Calls Try.prog 16 #[.int .i64 n, .string s] w fun e w' => e = .returned (.tuple #[.agg #[.slice none 0 0, .slice none 0 0, .int .u64 0], .int .i64 50]) ∧ Below w.heap.size w w' := by
  by_cases h1 : n < 1
  · go_enter Try.func16, Try.ntmps16
    go_wp2
    exact bodyPost_ret (v := .tuple #[.agg #[.slice none 0 0, .slice none 0 0, .int .u64 0], .int .i64 50]) (by simp [results, Try.results16, go_sem]) rfl ⟨rfl, below1 w _⟩
  · have h2 : 256 < n := by omega
    clear h
    go_enter Try.func16, Try.ntmps16
    go_wp2
    exact bodyPost_ret (v := .tuple #[.agg #[.slice none 0 0, .slice none 0 0, .int .u64 0], .int .i64 50]) (by simp [results, Try.results16, go_sem]) rfl ⟨rfl, below1 w _⟩
set_option maxHeartbeats 1000000 in
theorem rnew_long (n : Int) (s : ByteArray) (w : World) (h1 : 1 ≤ n) (h2 : n ≤ 256) (h : n * 256 < s.size) :
    Calls Try.prog 16 #[.int .i64 n, .string s] w fun e w' => e = .returned (.tuple #[.agg #[.slice none 0 0, .slice none 0 0, .int .u64 0], .int .i64 2]) ∧ Below w.heap.size w w' := by
  go_enter Try.func16, Try.ntmps16
  go_wp2
  exact bodyPost_ret (v := .tuple #[.agg #[.slice none 0 0, .slice none 0 0, .int .u64 0], .int .i64 2]) (by simp [results, Try.results16, go_sem]) rfl ⟨rfl, below1 w _⟩
set_option maxHeartbeats 2000000 in
theorem rnew_any (n : Nat) (s : ByteArray) (w : World) (h1 : 1 ≤ n) (h2 : n ≤ 256) (hs : s.size ≤ n * 256) :
    Calls Try.prog 16 #[.int .i64 n, .string s] w (NewMem w (spl (List.replicate (n * 256) 0) 0 s) (List.replicate n 0) 0 0) := by
  have hmd := make_d (n * 256) (by omega)
  have hmm := make_m n (by omega)
  rw [show ((n * 256 : Nat) : Int) = 256 * (n : Int) by omega] at hmd
  have hwr : IntKind.i64.wrap (256 * (n : Int)) = 256 * (n : Int) := IntWalk.i64_in _ (by omega)
  go_enter Try.func16, Try.ntmps16
  go_upto_region 5 with fail
  go_cut [6] (fun s6 wx => Made w (n * 256) n 0 s6 wx)
  case first =>
    go_region
    all_goals (go_wp2_with fail; go_meet)
    all_goals
      have hsz : (w.alloc (Obj.cells #[Value.slice none 0 0, Value.slice none 0 0, Value.int IntKind.u64 0] 39)).heap.size = w.heap.size + 1 := World.size_alloc _ _
      have hx1 : n * 256 ≤ maxLen := by unfold maxLen; omega
      have hx2 : n ≤ maxLen := by unfold maxLen; omega
      have hbl : ∀ o1 o2 o3, Below (w.heap.size + 1) (w.alloc (.cells #[.slice none 0 0, .slice none 0 0, .int .u64 0] 39)) ((((w.alloc (.cells #[.slice none 0 0, .slice none 0 0, .int .u64 0] 39)).alloc o1).alloc o2).alloc o3).drew := fun o1 o2 o3 =>
        ((((Below.refl _ _).alloc (by simp) _).alloc (by simp) _).alloc (by simp) _).drew
      first | exact made_mk (new3 hsz).1 (new3 hsz).2.1 (new3 hsz).2.2 (by omega) (by omega) (by omega) hx1 hx2 (hbl _ _ _) | exact made_mk (new3 hsz).1 (new3 hsz).2.2 (new3 hsz).2.1 (by omega) (by omega) (by omega) hx1 hx2 (hbl _ _ _) | exact made_mk (new3 hsz).2.1 (new3 hsz).1 (new3 hsz).2.2 (by omega) (by omega) (by omega) hx1 hx2 (hbl _ _ _) | exact made_mk (new3 hsz).2.1 (new3 hsz).2.2 (new3 hsz).1 (by omega) (by omega) (by omega) hx1 hx2 (hbl _ _ _) | exact made_mk (new3 hsz).2.2 (new3 hsz).1 (new3 hsz).2.1 (by omega) (by omega) (by omega) hx1 hx2 (hbl _ _ _) | exact made_mk (new3 hsz).2.2 (new3 hsz).2.1 (new3 hsz).1 (by omega) (by omega) (by omega) hx1 hx2 (hbl _ _ _) | fail
  case rest =>
    clear hmd hmm hwr
    obtain ⟨z, g, h, rfl, hv, hd, hm, hz, hg, hh, hb⟩ := hcut
    have hr : RamVar wc w.heap.size (.slice none 0 0) (.slice none 0 0) 0 := (hb.block _ (Nat.lt_succ_self _)).trans (heap_alloc_new _ _)
    obtain ⟨c0, c1, c2⟩ := hv.cells
    have hl : (List.replicate (n * 256) (0 : UInt8)).length = n * 256 := List.length_replicate ..
    generalize List.replicate (n * 256) (0 : UInt8) = Z at *
    generalize List.replicate n (0 : Int) = Y at *
    have hzg : z ≠ g := fun e => not_at hd hv (by decide) (by rw [e]; rfl)
    have hrg : w.heap.size ≠ g := fun e => not_at hd hr (by decide) (by rw [← e]; rfl)
    have hhg : h ≠ g := fun e => rows_apart hm hd (by decide) rfl (by rw [e]; rfl)
    have HV := Lib.hid hv
    have HR := Lib.hid hr
    have HM := Lib.hid hm
    have HB := Lib.hid hb
    have HD := Lib.hid hd
    have HL := Lib.hid hl
    clear hv hr hm hb hd hl
    go_wp2_with (with_reducible refine wpList_copy_str rfl (.tmp 27) (.tmp 28) 36 9 rfl 5 Try.underlying36 (by kernel_rfl) _ _ g 0 rfl s rfl w.heap.size _ _ Z HD.out (by omega) (by rw [HL.out]; omega) ?_; intro w2 hd2 ht2; obtain ⟨e0, e1, e2⟩ := (HV.out.touch ht2.out hzg).cells; have hr2 := Lib.hid (HR.out.touch ht2.out hrg); obtain ⟨r0, r1, r2⟩ := hr2.out.cells; have r3 := hr2.out.free 0; have r4 := hr2.out.free 1; have r5 := hr2.out.free 2)
    have hfin := hr2.out.store (.slice (some ⟨g, 0, none⟩) (n * 256) (n * 256)) (.slice (some ⟨h, 0, none⟩) n n) 0
    obtain ⟨f0, f1, f2⟩ := hfin.cells
    clear e0 e1 e2 r0 r1 r2 r3 r4 r5 c0 c1 c2
    refine bodyPost_ret (v := .tuple #[.agg #[.slice (some ⟨g, 0, none⟩) (n * 256) (n * 256), .slice (some ⟨h, 0, none⟩) n n, .int .u64 0], .int .i64 0]) (by simp [results, Try.results16, go_sem, f0, f1, f2]) rfl ?_
    refine ⟨_, _, rfl, ?_, ?_, ?_⟩
    · exact owns_touch hd2.out ((((Touch.refl w2 (fun k => k = w.heap.size)).setCell (.inl rfl) _).setCell (.inl rfl) _).setCell (.inl rfl) _) (fun g' e e2 => hrg (by cases e; exact e2.symm))
    · exact owns_touch (owns_touch HM.out ht2.out (fun g' e e2 => hhg (by cases e; exact e2))) ((((Touch.refl w2 (fun k => k = w.heap.size)).setCell (.inl rfl) _).setCell (.inl rfl) _).setCell (.inl rfl) _) (fun g' e e2 => by cases e; exact absurd e2 (show h ≠ w.heap.size by omega))
    · have hb1 : Below w.heap.size w wc := (below1 w _).trans (HB.out.mono (Nat.le_succ _))
      have hb2 := Touch.below hb1 ht2.out (fun k hk => by omega) hb1.size
      exact ((hb2.setCell (Nat.le_refl _) _).setCell (Nat.le_refl _) _).setCell (Nat.le_refl _) _
end Go.Proofs.Ytgflnfmnjlmenaa
namespace Go.Proofs.Ytgflnfmnjlmenaa
open Go.RowKit Go.Deep Go.Joins
def stB (n : Nat) (t size : Int) : Bool := loadsB size && thereB n t size
def stE (n : Nat) (t size : Int) : Int := if loadsB size then (if thereB n t size then 0 else 50) else 1
theorem newMem_nil {w w' : World} {er : Int} (hb : Below w.heap.size w w') : NewMem w [] [] 0 er (.returned (.tuple #[.agg #[.slice none 0 0, .slice none 0 0, .int .u64 0], .int .i64 er])) w' :=
  ⟨_, _, rfl, World.ownsRow_nil _ _ _ _, World.ownsRow_nil _ _ _ _, hb⟩
def ldV (D : List UInt8) (t size : Int) : Int := if stB D.length t size then (le ((D.drop (t - 2147483648).toNat).take size.toNat) : Nat) else 0
def nwB (n : Int) (s : ByteArray) : Bool := decide (1 ≤ n ∧ n ≤ 256 ∧ (s.size : Int) ≤ n * 256)
def nwD (n : Int) (s : ByteArray) : List UInt8 := if nwB n s then spl (List.replicate (n.toNat * 256) 0) 0 s else []
def nwM (n : Int) (s : ByteArray) : List Int := if nwB n s then List.replicate n.toNat 0 else []
def nwE (n : Int) (s : ByteArray) : Int := if nwB n s then 0 else if 1 ≤ n ∧ n ≤ 256 then 2 else 50
def NewRes (w : World) (n : Int) (s : ByteArray) (e : Ending) (w' : World) : Prop := NewMem w (nwD n s) (nwM n s) 0 (nwE n s) e w'
theorem rnew_all (n : Int) (s : ByteArray) (w : World) : Calls Try.prog 16 #[.int .i64 n, .string s] w (NewRes w n s) := by
  unfold NewRes nwD nwM nwE
  by_cases h1 : 1 ≤ n ∧ n ≤ 256
  · by_cases h2 : (s.size : Int) ≤ n * 256
    · obtain ⟨k, rfl⟩ : ∃ k : Nat, n = k := ⟨n.toNat, by omega⟩
      rw [show nwB k s = true from decide_eq_true ⟨h1.1, h1.2, h2⟩]
      exact rnew_any k s w (by omega) (by omega) (by omega)
    · rw [show nwB n s = false from decide_eq_false (fun h => h2 h.2.2)]
      refine (rnew_long n s w h1.1 h1.2 (by omega)).mono ?_
      rintro e w' ⟨rfl, hb⟩
      rw [if_pos h1]
      exact newMem_nil hb
  · rw [show nwB n s = false from decide_eq_false (fun h => h1 ⟨h.1, h.2.1⟩)]
    refine (rnew_ram n s w h1).mono ?_
    rintro e w' ⟨rfl, hb⟩
    rw [if_neg h1]
    exact newMem_nil hb
end Go.Proofs.Ytgflnfmnjlmenaa
namespace Go.Proofs.Ytgflnfmnjlmenaa
open Go.RowKit Go.Deep Go.Joins
/-- Frames that lie in a block of strings of one's own (from block B on). -/
structure FT (w : World) (B : Nat) (v : Value) (F : List ByteArray) : Prop where
  rd : FAt w v F
  blk : ∀ p n c, v = .slice (some p) n c → B ≤ p.block ∧ ∃ cur, w.heap[p.block]? = some (.cells cur 9 (0, 0))
theorem Reads.keep {w w' : World} {v : Value} {size n : Nat} {cells : List Value} (h : Reads w v size n cells) (hb : ∀ p n c, v = .slice (some p) n c → w'.heap[p.block]? = w.heap[p.block]?) : Reads w' v size n cells := by
  obtain ⟨hl, h⟩ := h
  refine ⟨hl, ?_⟩
  rcases h with h | ⟨a, cap, hv, h1, h2, hc⟩
  · exact .inl h
  · refine .inr ⟨a, cap, hv, h1, h2, fun j u hu => ?_⟩
    have e := hb a n cap hv
    have k := hc j u hu
    have ej : (a.add j).block = a.block := by unfold Addr.add; split <;> rfl
    unfold World.cell? at k ⊢
    rw [ej] at k ⊢
    rw [e]
    exact k
theorem FT.keep {w w' : World} {B : Nat} {v : Value} {F : List ByteArray} (h : FT w B v F) (hb : ∀ g cur, B ≤ g → w.heap[g]? = some (.cells cur 9 (0, 0)) → w'.heap[g]? = w.heap[g]?) : FT w' B v F :=
  ⟨Reads.keep h.rd fun p n c hv => by obtain ⟨h1, cur, h2⟩ := h.blk p n c hv; exact hb _ cur h1 h2,
   fun p n c hv => by obtain ⟨h1, cur, h2⟩ := h.blk p n c hv; exact ⟨h1, cur, (hb _ cur h1 h2).trans h2⟩⟩
theorem FT.below {w w' : World} {B : Nat} {v : Value} {F : List ByteArray} (h : FT w B v F) (hb : Below w.heap.size w w') : FT w' B v F :=
  h.keep fun g _ _ hg => hb.block g (Array.getElem?_eq_some_iff.1 hg).1
theorem FT.base {w : World} {B B' : Nat} {v : Value} {F : List ByteArray} (h : FT w B v F) (hB : B' ≤ B) : FT w B' v F := ⟨h.rd, fun p n c e => ⟨Nat.le_trans hB (h.blk p n c e).1, (h.blk p n c e).2⟩⟩
theorem FT.of {w : World} {B : Nat} {v : Value} {F : List ByteArray} (h : w.ownsRow B 9 1 v F.length (sC F)) : FT w B v F :=
  ⟨reads_of_owns h, fun p n c hv => by
    rcases h.2 with ⟨e, _⟩ | ⟨g, cap, cur, e, hB, hg, _⟩
    · rw [e] at hv; cases hv
    · rw [e] at hv
      simp only [Value.slice.injEq, Option.some.injEq] at hv
      rw [← hv.1]
      exact ⟨hB, cur, hg⟩⟩
end Go.Proofs.Ytgflnfmnjlmenaa
