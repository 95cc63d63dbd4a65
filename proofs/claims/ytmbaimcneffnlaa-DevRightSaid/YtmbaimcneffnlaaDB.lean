/- DevLooks, the given statement: every place of a board is read and written as the document says, the board that is handed in stays: for every input, with no condition. -/
import Derived.Test.YtmbaimcneffnlaaDA
import Derived.Test.YtmbaimcneffnlaaPA
import Derived.Test.YtmbaimcneffnlaaL
import Derived.Test.YtmbaimcneffnlaaM
import Derived.Test.YtmbaimcneffnlaaQ
namespace Go.Proofs.Ytmbaimcneffnlaa
open Go.RowKit Go.Deep Go.Joins
theorem told_congr {W : World} {r r' : Bd} {F : List ByteArray} {f : Value → Value} {e : Ending} {W' : World} (h : Told W r F f e W') (hr : ∀ q m d, r.at q m d = r'.at q m d) : Told W r' F f e W' := by
  obtain ⟨p, c, he, ho, hb⟩ := h
  exact ⟨p, c, by rw [he, hr], ho, hb⟩
theorem ldF_at (b : Bd) (p : Option Addr) (n c : Nat) (F : List ByteArray) (t s k : Int) : (ldF (b.at p n c) F t s k).2 = (ldF b F t s k).2 ∧ ∀ q m d, (ldF (b.at p n c) F t s k).1.at q m d = (ldF b F t s k).1.at q m d := by
  unfold ldF
  by_cases h : t = 33554432 ∧ s = 4
  · simp only [if_pos h]
    exact ⟨by first | trivial | rfl, fun _ _ _ => by first | trivial | rfl⟩
  simp only [if_neg h]
  clear h
  by_cases h : t = 33570816 ∧ s = 8
  · simp only [if_pos h]
    exact ⟨by first | trivial | rfl, fun _ _ _ => by first | trivial | rfl⟩
  simp only [if_neg h]
  clear h
  by_cases h : t = 33603576 ∧ s = 8
  · simp only [if_pos h]
    exact ⟨by first | trivial | rfl, fun _ _ _ => by first | trivial | rfl⟩
  simp only [if_neg h]
  clear h
  by_cases h : t = 268435456 ∧ s = 1
  · simp only [if_pos h]
    exact ⟨by first | trivial | rfl, fun _ _ _ => by first | trivial | rfl⟩
  simp only [if_neg h]
  clear h
  by_cases h : t = 268435457 ∧ s = 1
  · simp only [if_pos h]
    exact ⟨by first | trivial | rfl, fun _ _ _ => by first | trivial | rfl⟩
  simp only [if_neg h]
  clear h
  by_cases h : t = 268435461 ∧ s = 1
  · simp only [if_pos h]
    exact ⟨by first | trivial | rfl, fun _ _ _ => by first | trivial | rfl⟩
  simp only [if_neg h]
  clear h
  by_cases h : t = 268439552 ∧ s = 8
  · simp only [if_pos h]
    exact ⟨by first | trivial | rfl, fun _ _ _ => by first | trivial | rfl⟩
  simp only [if_neg h]
  clear h
  by_cases h : t = 268439560 ∧ s = 8
  · simp only [if_pos h]
    exact ⟨by first | trivial | rfl, fun _ _ _ => by first | trivial | rfl⟩
  simp only [if_neg h]
  clear h
  by_cases h : t = 268439576 ∧ s = 8
  · simp only [if_pos h]
    exact ⟨by first | trivial | rfl, fun _ _ _ => by first | trivial | rfl⟩
  simp only [if_neg h]
  clear h
  by_cases h : t = 268443648 ∧ s = 8
  · simp only [if_pos h]
    exact ⟨by first | trivial | rfl, fun _ _ _ => by first | trivial | rfl⟩
  simp only [if_neg h]
  clear h
  by_cases h : t = 268443656 ∧ s = 8
  · simp only [if_pos h]
    exact ⟨by first | trivial | rfl, fun _ _ _ => by first | trivial | rfl⟩
  simp only [if_neg h]
  clear h
  by_cases h : t = 268443672 ∧ s = 8
  · simp only [if_pos h]
    exact ⟨by first | trivial | rfl, fun _ _ _ => by first | trivial | rfl⟩
  simp only [if_neg h]
  clear h
  exact ⟨by first | trivial | rfl, fun _ _ _ => by first | trivial | rfl⟩
theorem stF_at (b : Bd) (p : Option Addr) (n c : Nat) (F : List ByteArray) (t s v : Int) : (stF (b.at p n c) F t s v).2 = (stF b F t s v).2 ∧ ∀ q m d, (stF (b.at p n c) F t s v).1.at q m d = (stF b F t s v).1.at q m d := by
  unfold stF
  by_cases h : t = 33554432 ∧ s = 4
  · simp only [if_pos h]
    exact ⟨by first | trivial | rfl, fun _ _ _ => by first | trivial | rfl⟩
  simp only [if_neg h]
  clear h
  by_cases h : t = 33570816 ∧ s = 8
  · simp only [if_pos h]
    exact ⟨by first | trivial | rfl, fun _ _ _ => by first | trivial | rfl⟩
  simp only [if_neg h]
  clear h
  by_cases h : t = 268435456 ∧ s = 1
  · simp only [if_pos h]
    exact ⟨by first | trivial | rfl, fun _ _ _ => by first | trivial | rfl⟩
  simp only [if_neg h]
  clear h
  by_cases h : t = 268435457 ∧ s = 1
  · simp only [if_pos h]
    exact ⟨by first | trivial | rfl, fun _ _ _ => by first | trivial | rfl⟩
  simp only [if_neg h]
  clear h
  by_cases h : t = 268439552 ∧ s = 8
  · simp only [if_pos h]
    exact ⟨by first | trivial | rfl, fun _ _ _ => by first | trivial | rfl⟩
  simp only [if_neg h]
  clear h
  by_cases h : t = 268439560 ∧ s = 8
  · simp only [if_pos h]
    exact ⟨by first | trivial | rfl, fun _ _ _ => by first | trivial | rfl⟩
  simp only [if_neg h]
  clear h
  by_cases h : t = 268439568 ∧ s = 8
  · simp only [if_pos h]
    exact ⟨by first | trivial | rfl, fun _ _ _ => by first | trivial | rfl⟩
  simp only [if_neg h]
  clear h
  by_cases h : t = 268443656 ∧ s = 8
  · simp only [if_pos h]
    exact ⟨by first | trivial | rfl, fun _ _ _ => by first | trivial | rfl⟩
  simp only [if_neg h]
  clear h
  by_cases h : t = 268443664 ∧ s = 8
  · simp only [if_pos h]
    exact ⟨by first | trivial | rfl, fun _ _ _ => by first | trivial | rfl⟩
  simp only [if_neg h]
  clear h
  by_cases h : t = 268443672 ∧ s = 8
  · simp only [if_pos h]
    exact ⟨by first | trivial | rfl, fun _ _ _ => by first | trivial | rfl⟩
  simp only [if_neg h]
  clear h
  exact ⟨by first | trivial | rfl, fun _ _ _ => by first | trivial | rfl⟩
theorem looks_any (b : Bd) (F : List ByteArray) (t s v n : Int) (W : World) (hf : FAt W (.slice b.fp b.fn b.fc) F) (hF : F.length ≤ 8796093022208) (hv : U64 v) :
    Calls Try.prog 3 #[bdV b, .agg (lookC t s v), .int .u64 n] W fun e W' => e = .returned (.bool true) ∧ Below W.heap.size W W' := by
  have hl := hf.len
  have hn : ∀ {W'}, Below W.heap.size W W' → FAt W' (.slice b.fp b.fn b.fc) F := fun h => hf.next h
  have ha : ∀ {W' p c}, FAt W' (.slice p F.length c) F → FAt W' (.slice (b.at p F.length c).fp (b.at p F.length c).fn (b.at p F.length c).fc) F := fun h => h
  exact looks_walk b (ldF b F t s n).1 (stF b F t s v).1 F (ldF b F t s n).2.1 (stF b F t s v).2.1 t s v n (ldF b F t s n).2.2.1 (stF b F t s v).2.2.1 (rightB b F) (ldF b F t s n).2.2.2 (stF b F t s v).2.2.2.2 (sourcesV b F) (clockV b n) (stF b F t s v).2.2.2.1 W
    (Lib.hid fun W' h => right_any b F W' (hn h))
    (Lib.hid fun W' h => rright_any b F W' (hn h))
    (Lib.hid fun W' _ => sources_any b F W' hl)
    (Lib.hid fun W' _ => rsources_any b F W' hl)
    (Lib.hid fun W' _ => clock_any b n W')
    (Lib.hid fun W' _ => rclock_any b n W')
    (Lib.hid fun W' h => rcopy_bd b F W' (hn h) hF)
    (Lib.hid fun W' p c h => by
      have k := load_any (b.at p F.length c) F t s n W' (ha h) hF
      rw [(ldF_at b p F.length c F t s n).1] at k
      exact k.mono fun _ _ h => told_congr h (ldF_at b p F.length c F t s n).2)
    (Lib.hid fun W' h => rload_any b F t s n W' (hn h) hF)
    (Lib.hid fun W' p c h => by
      have k := store_any (b.at p F.length c) F t s v W' (ha h) hF hv
      rw [(stF_at b p F.length c F t s v).1] at k
      exact k.mono fun _ _ h => told_congr h (stF_at b p F.length c F t s v).2)
    (Lib.hid fun W' h => rstore_any b F t s v W' (hn h) hF hv)
    (Lib.hid fun W' p c h => copy_bd (b.at p F.length c) F W' (ha h) hF)
    (Lib.hid fun W' p c h k => by
      have e : b.at b.fp F.length b.fc = b := by rw [← hl]; rfl
      have q := same_any b p b.fp F.length c b.fc W' F h (by rw [← hl]; exact hn k)
      rwa [e] at q)
open Go.WideShapes Go.ChangeShapes Go.ChangeAt
set_option maxRecDepth 100000 in
theorem devLooks_lifted (os : Os) (started : os.Started) (H : Type) (enc : TypeId × Value → H) :
    ReturnsInHanded {} Try.checked os 3 .any (Rows.devLooksSpec.pre6 enc Try.prog Try.f3 Rows.devLooksRow.domain false) (Rows.devLooksSpec.post enc Try.prog Try.f3 false true false false) := by
  refine returnsInHanded_of_change_sized (C := Try.checked) own started (by kernel_rfl) Try.func3
    (ChangeSpec.witness6 (enc := enc) (C := Try.checked) false ⟨#[], #[.agg #[.bool false, .int .u64 0, .string ⟨#[]⟩, .bool false, .string ⟨#[]⟩, .int .u64 0, .int .u64 0, .bool false, .bool false, .slice none 0 0, .int .u64 0, .int .u64 0, .int .u32 0, .int .u32 0, .int .u32 0, .int .u32 0, .int .u32 0, .int .u32 0, .int .u32 0, .int .u32 0, .int .u32 0], .agg #[.int .u64 0, .int .i64 0, .int .u64 0], .int .u64 0], []⟩ 8 (by kernel_rfl) (by kernel_rfl) (by kernel_rfl) (by kernel_rfl)) ?_
  intro W base args ds gs before hval0 hW hcnd hsz _
  have hW' := hW
  obtain ⟨p, q, hA0, hV, rfl, hfz, hnd⟩ := hW
  have hval : ∀ (j : Nat) t v, Try.f3.params[j]? = some t → args[j]? = some v → Value.okWide Try.prog W .any base t v := hval0
  have hA : DataW.TrodAll enc Try.prog W 0 (fun _ => true) true Try.f3.params.toList args.toList ds p := hA0
  rw [Try.params3] at hA hval
  obtain ⟨v0, v1, v2, d0, d1, d2, p0, p1, p2, rfl, rfl, rfl, h0, h1, h2⟩ := trodAll_three' hA
  obtain ⟨rfl, rfl⟩ := trodVars_none hV
  have hlt : ∀ x ∈ p0 ++ p1, x.block < W.heap.size := fun x hx => hW'.lt x (by rcases List.mem_append.1 hx with h | h <;> simp [h])
  obtain ⟨b, F, rfl, hf, _, ok, hwt⟩ := open_board (hval 0 30 v0 rfl rfl) h0
  have hN : ∀ x ∈ d0.weights Try.prog 30, x ≤ 140737488351232 := fun x hx => by
    have := List.all_eq_true.1 hsz x (by
      show x ∈ DataW.weightsEach Try.prog (Try.f3.params.toList ++ _) _
      rw [Try.params3]
      simp [DataW.weightsEach, hx])
    exact of_decide_eq_true this
  have hFl := hwt _ hN
  obtain ⟨t, s, x, rfl, ut, ux⟩ := open_look (hval 1 32 v1 rfl rfl) h1
  obtain ⟨n2, rfl, rfl, rfl, w2⟩ := open_int Try.underlying22 (hval 2 22 v2 rfl rfl) h2
  simp only [List.append_nil] at hW'
  refine (looks_any b F t s x n2 W hf (by omega) ux).mono fun e W' ⟨he, hb⟩ => ?_
  subst he
  refine ⟨_, rfl, _, _, _, [], p0 ++ (p1 ++ ([])), [], hW', trodAll_mk1 (shut_bool Try.underlying4 _), trodAll_mk3 (Below.trod laidOut (by kernel_rfl) (of_decide_eq_true (by kernel_rfl)) h0 hb fun x hx => hlt x (by simp [hx])) (Below.trod laidOut (by kernel_rfl) (of_decide_eq_true (by kernel_rfl)) h1 hb fun x hx => hlt x (by simp [hx])) (shut_int Try.underlying22 w2), rfl, hb.frame _, fun h => by cases h⟩
/-- The given statement. -/
theorem devLooks_proved : Rows.DevLooksSaid :=
  OpenClaim.holds_of_wide 3 Try.f3 rfl rfl rfl rfl rfl rfl rfl ⟨rfl, rfl, rfl, rfl, rfl⟩ rfl rfl rfl rfl rfl (by kernel_rfl) Try.func3 (by kernel_rfl)
    (of_decide_eq_true (by kernel_rfl)) (by unfold Func.isWrapper; first | (rw [if_pos (by decide +kernel)]; kernel_rfl) | (rw [if_neg (by decide +kernel)]; exact ⟨rfl, rfl⟩))
    (fun os started H enc _ => devLooks_lifted os started H enc)

end Go.Proofs.Ytmbaimcneffnlaa
