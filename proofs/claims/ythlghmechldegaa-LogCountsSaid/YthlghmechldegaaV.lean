/- LogCounts' walk: numbers of members, majorities, what is agreed, entries that may be: both sides tell the same. -/
import Derived.Test.YthlghmechldegaaP
namespace Go.Proofs.Ythlghmechldegaa
open Go.RowKit Go.Deep Go.Joins
set_option maxRecDepth 100000
theorem near_eload {w : World} {b : Nat} {e : En} (k : EBox w b e) (w' : World) (hw : ∃ p : Near w, w' = p.wx) : (Instr.loadAt 36 (.pointer (some ⟨b, 0, none⟩))).run Try.prog w' = .ok (enV e) w' := by
  obtain ⟨p, rfl⟩ := hw
  exact (k.next p.near).load
/-- Two sets, numbers and an entry in a function's own blocks. -/
structure Four (W w : World) (s a : Nat → Bool) (h : Nat → Int) (e : En) : Prop where
  s : SBox w W.heap.size s
  a : SBox w (W.heap.size + 1) a
  n : NBox w (W.heap.size + 1 + 1) h
  e : EBox w (W.heap.size + 1 + 1 + 1) e
  below : Below W.heap.size W w
theorem Four.start (W : World) (s a : Nat → Bool) (h : Nat → Int) (e : En) : Four W ((((W.alloc (setO s)).alloc (setO a)).alloc (numO h)).alloc (enO e)) s a h e := by
  have e1 : (W.alloc (setO s)).heap.size = W.heap.size + 1 := by simp
  have e2 : ((W.alloc (setO s)).alloc (setO a)).heap.size = W.heap.size + 1 + 1 := by simp
  have e3 : (((W.alloc (setO s)).alloc (setO a)).alloc (numO h)).heap.size = W.heap.size + 1 + 1 + 1 := by simp
  refine ⟨(((SBox.new W s).alloc _).alloc _).alloc _, ?_, ?_, ?_, (((below1 W _).alloc (by simp) _).alloc (by simp; omega) _).alloc (by simp; omega) _⟩
  · have := ((SBox.new (W.alloc (setO s)) a).alloc (numO h)).alloc (enO e); rwa [e1] at this
  · have := (NBox.new ((W.alloc (setO s)).alloc (setO a)) h).alloc (enO e); rwa [e2] at this
  · have := EBox.new (((W.alloc (setO s)).alloc (setO a)).alloc (numO h)) e; rwa [e3] at this
set_option maxHeartbeats 8000000 in
theorem counts_law (s a : Nat → Bool) (h : Nat → Int) (e : En) (hz : e.i.data.size ≤ maxLen) (W : World) : Calls Try.prog 5 #[setV s, setV a, numV h, enV e] W fun r W' => r = .returned (.bool true) ∧ Below W.heap.size W W' := by
  have C0 := Lib.hid (fun W' => awake_any W')
  have C1 := Lib.hid (fun W' => count_any s W')
  have C2 := Lib.hid (fun W' => rcount_any s W')
  have C3 := Lib.hid (fun W' => maj_any s a W')
  have C4 := Lib.hid (fun W' => rmaj_any s a W')
  have C5 := Lib.hid (fun W' => agreed_any s h W')
  have C6 := Lib.hid (fun W' => ragreed_any s h W')
  have C7 := Lib.hid (fun W' => entry_any e hz W')
  have C8 := Lib.hid (fun W' => rentry_any e hz W')
  clear hz
  generalize ag s h 7 = c1 at *
  generalize mj s a = c2 at *
  generalize entB e = c3 at *
  generalize ((cn s 7 : Nat) : Int) = c4 at *
  go_enter Try.func5, Try.ntmps5
  go_upto_region 1 with (fail)
  have X := Lib.hid (Four.start W s a h e)
  generalize (((W.alloc (setO s)).alloc (setO a)).alloc (numO h)).alloc (enO e) = w0 at *
  have hne : Nonempty (Near w0) := ⟨⟨w0, Below.refl _ _⟩⟩
  refine wp_region_near (by kernel_rfl) (by kernel_rfl) ?_
  repeat (first | (go_big_quiet_want; (with_reducible refine quiet_by _ (fun w hw => exec_load (t := 24) rfl (near_sload X.out.s w hw) rfl) ?_); simp only [Act.put, List.setIfInBounds_toArray, List.set_cons_zero, List.set_cons_succ]; go_big_quiet_on) | (go_big_quiet_want; (with_reducible refine quiet_by _ (fun w hw => exec_load (t := 24) rfl (near_sload X.out.a w hw) rfl) ?_); simp only [Act.put, List.setIfInBounds_toArray, List.set_cons_zero, List.set_cons_succ]; go_big_quiet_on) | (go_big_quiet_want; (with_reducible refine quiet_by _ (fun w hw => exec_load (t := 54) rfl (near_nload X.out.n w hw) rfl) ?_); simp only [Act.put, List.setIfInBounds_toArray, List.set_cons_zero, List.set_cons_succ]; go_big_quiet_on) | (go_big_quiet_want; (with_reducible refine quiet_by _ (fun w hw => exec_load (t := 36) rfl (near_eload X.out.e w hw) rfl) ?_); simp only [Act.put, List.setIfInBounds_toArray, List.set_cons_zero, List.set_cons_succ]; go_big_quiet_on) | go_big_quiet_step (first | (go_at_call 8; exact near_call (C0.out _)) | (go_at_call 33; exact near_call (C1.out _)) | (go_at_call 34; exact near_call (C2.out _)) | (go_at_call 35; exact near_call (C3.out _)) | (go_at_call 36; exact near_call (C4.out _)) | (go_at_call 37; exact near_call (C5.out _)) | (go_at_call 38; exact near_call (C6.out _)) | (go_at_call 39; exact near_call (C7.out _)) | (go_at_call 40; exact near_call (C8.out _)) | fail))
  refine wpQuiet_nil ?_
  rintro _ ⟨pn, rfl⟩
  have HB := Lib.hid (below_then X.out.below (Nat.le_refl _) pn.near)
  clear X hne
  generalize pn.wx = w1 at *
  go_wp2
  go_ret
  exact ⟨rfl, HB.out⟩
end Go.Proofs.Ythlghmechldegaa
