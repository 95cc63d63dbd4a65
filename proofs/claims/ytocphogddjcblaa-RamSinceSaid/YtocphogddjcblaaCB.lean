/- Since of the program (of memory that may be). -/
import Derived.Test.YtocphogddjcblaaP
import Derived.Test.YtocphogddjcblaaW
namespace Go.Proofs.Ytocphogddjcblaa
open Go.RowKit Go.Deep Go.Joins
def iC (l : List Nat) : List Value := l.map fun (k : Nat) => Value.int .i64 ((k : Nat) : Int)
theorem iC_length (l : List Nat) : (iC l).length = l.length := List.length_map _
def OwnI (w : World) (B : Nat) (v : Value) (L : List Nat) : Prop := w.ownsRow B 3 1 v L.length (iC L)
def sinceTo (M : List Int) (e : Int) (j : Nat) : List Nat := (List.range j).filter fun k => decide (e ≤ M.getD k 0)
theorem sinceTo_len (M : List Int) (e : Int) (j : Nat) : (sinceTo M e j).length ≤ j := by
  unfold sinceTo
  exact Nat.le_trans (List.length_filter_le _ _) (by simp)
theorem sinceTo_yes (M : List Int) (e : Int) (j : Nat) (h : e ≤ M.getD j 0) : sinceTo M e (j + 1) = sinceTo M e j ++ [j] := by
  unfold sinceTo
  rw [List.range_succ, List.filter_append]
  simp
  rw [← List.getD_eq_getElem?_getD]
  exact h
theorem sinceTo_no (M : List Int) (e : Int) (j : Nat) (h : ¬ e ≤ M.getD j 0) : sinceTo M e (j + 1) = sinceTo M e j := by
  unfold sinceTo
  rw [List.range_succ, List.filter_append]
  simp
  rw [← List.getD_eq_getElem?_getD]
  omega
/-- append OF ONE CELL. -/
theorem run_append_one (w : World) (t ty e : TypeId) (i : TypeInfo) (z : Value) (bytes : Nat) (ht : Try.prog.underlying t = some (.slice e)) (hi : Try.prog.info? e = some i) (hz : i.zero = some z) (hsize : i.size = 1) (hby : i.bytes = bytes) (hzs : z.cells.size = 1)
    (B : Nat) (v : Value) (n : Nat) (xs : List Value) (hown : w.ownsRow B e 1 v n xs) (g : Nat) (u : Value) (hg : w.heap[g]? = some (.cells #[u] e (0, 0))) (hu : u.oneCell' = true) (h63 : n + 1 ≤ maxLen) (hbytes : (n + 1) * bytes ≤ 140737488355328) (hbase : B ≤ w.heap.size) :
    ∃ p cap w', (Builtin.append_ #[t, t] ty #[v, .slice (some ⟨g, 0, none⟩) 1 1]).run Try.prog w = .ok (.slice p (n + 1) cap) w' ∧ w'.ownsRow B e 1 (.slice p (n + 1) cap) (n + 1) (xs ++ [u]) ∧ Touch w w' (fun k => some k = v.ownBlock) := by
  obtain ⟨v', w', hrun, ho, hgr, _⟩ := run_append_own (P := Try.prog) w B t ty e i z 1 bytes ht hi hz hsize hby hzs (by omega) v n xs hown ⟨g, 0, none⟩ 1 1 [u] rfl (fun j y hj => by
    rw [add_lit, Nat.zero_add, cell_of_row w g j _ e (0, 0) hg]
    simpa using hj) (fun y hy => by rw [List.mem_singleton] at hy; rw [hy]; exact hu) h63 hbytes hbase
  obtain ⟨p, cap, rfl⟩ := owns_shape ho
  exact ⟨p, cap, w', hrun, ho, touch_of_grown hgr⟩
structure SinceAt (w wr : World) (dv mv : Value) (E : Int) (v : Value) (L : List Nat) : Prop where
  box : RamVar wr w.heap.size dv mv E
  own : OwnI wr (w.heap.size + 1) v L
  below : Below w.heap.size w wr
def SinceRes (w : World) (L : List Nat) (e : Ending) (w' : World) : Prop := ∃ p cap, e = .returned (.slice p L.length cap) ∧ OwnI w' w.heap.size (.slice p L.length cap) L ∧ Below w.heap.size w w'
set_option maxRecDepth 100000 in
set_option maxHeartbeats 4000000 in
theorem since_any (p : Option Addr) (n cap : Nat) (mv : Value) (E : Int) (M : List Int) (ep : Int) (w : World) (hm : MAt w mv M) (hn : n = M.length * 256) (hM : M.length ≤ 17592186043904) (hn2 : n ≤ 9223372036854775807) :
    Calls Try.prog 30 #[.agg #[.slice p n cap, mv, .int .u64 E], .int .u64 ep] w (SinceRes w (sinceTo M ep M.length)) := by
  obtain ⟨q, cap2, rfl⟩ := hm.is
  have HM := Lib.hid hm
  have HN := Lib.hid hn
  clear hm hn
  obtain ⟨i3, ki, kz, ks, kb⟩ := info_parts (show (Try.prog.info? 3).map (fun i => (i.zero, i.size, i.bytes)) = some (some (.int .i64 0), 1, 8) by kernel_rfl)
  have K3 := Lib.hid (And.intro ki (And.intro kz (And.intro ks kb)))
  clear ki kz ks kb
  have HAT := Lib.hid (show SinceAt w (w.alloc (.cells #[.slice p n cap, .slice q M.length cap2, .int .u64 E] 26)) (.slice p n cap) (.slice q M.length cap2) E (.slice none 0 0) (sinceTo M ep 0) from ⟨heap_alloc_new _ _, (show OwnI _ _ _ [] from World.ownsRow_nil _ _ _ _), below1 w _⟩)
  go_enter Try.func30, Try.ntmps30
  go_wp2_with fail
  go_loopw [5, 11] (fun v i wr => ∃ j : Nat, j ≤ M.length ∧ i = .int .i64 j ∧ Hid (SinceAt w wr (.slice p n cap) (.slice q M.length cap2) E v (sinceTo M ep j))) (fun _ i _ => M.length - (intOf i).toNat)
  case atStart => exact ⟨0, Nat.zero_le _, rfl, HAT⟩
  case round =>
    obtain ⟨j, hj, rfl, hat⟩ := hrel
    obtain ⟨pv, cv, rfl⟩ := owns_shape hat.out.own
    obtain ⟨x0, x1, x2⟩ := hat.out.box.cells
    by_cases hlt : j < M.length
    · obtain ⟨b, off, _, e1, _, _, hb, hc⟩ := (HM.out.below hat.out.below).cell (by omega)
      simp only [Value.slice.injEq, true_and] at e1
      obtain ⟨rfl, rfl⟩ := e1
      have c0 := hc j hlt
      have hgd : M.getD j 0 = M[j] := by rw [List.getD_eq_getElem?_getD, List.getElem?_eq_getElem hlt]; rfl
      have HY := Lib.hid (sinceTo_yes M ep j)
      have HNO := Lib.hid (sinceTo_no M ep j)
      rw [hgd] at HY HNO
      have hln := sinceTo_len M ep j
      clear hc hgd
      generalize M[j] = X at *
      by_cases hge : ep ≤ X
      · have hg1 : decide (ep ≤ X) = true := decide_eq_true hge
        go_wp2_with fail
        refine (leaf_any _ _ _ _ _ _ _ hn2).mono ?_
        rintro e w5 ⟨rfl, hb5⟩
        rw [show leafB n j = true from decide_eq_true (by have := HN.out; omega)]
        have HS := Lib.hid (HY.out hge)
        obtain ⟨ki, kz, ks, kb⟩ := K3.out
        have hown5 := owns_below (hat.out.own) hb5
        have hbn := below1 w5 (.cells #[.int .i64 j] 3)
        obtain ⟨p', cap', w6, hrun, ho6, ht6⟩ := run_append_one (w5.alloc (.cells #[.int .i64 j] 3)) 55 55 3 i3 (.int .i64 0) 8 Try.underlying55 ki kz ks kb rfl (w.heap.size + 1) _ _ _ (owns_below hown5 hbn) w5.heap.size (.int .i64 j) (heap_alloc_new _ _) rfl (by unfold maxLen; omega) (by omega) (by have := (hat.out.box.below hb5).lt; simp; omega)
        have hlen2 : (sinceTo M ep (j + 1)).length = (sinceTo M ep j).length + 1 := by rw [HS.out]; simp
        have HNX := Lib.hid (show SinceAt w w6 (.slice p n cap) (.slice (some ⟨b, off, none⟩) M.length cap2) E (.slice p' ((sinceTo M ep j).length + 1) cap') (sinceTo M ep (j + 1)) from
          ⟨((hat.out.box.below hb5).below hbn).touch ht6 (fun e => by have := (owns_lt hown5 e.symm).1; omega), by
            unfold OwnI
            rw [hlen2, HS.out]
            have e2 : iC (sinceTo M ep j ++ [j]) = iC (sinceTo M ep j) ++ [.int .i64 j] := by simp [iC]
            rw [e2]; exact ho6, Touch.below (below_then (below_then hat.out.below hb5) hbn) ht6 (fun k hk => by have := (owns_lt hown5 hk.symm).1; omega) (Nat.le_trans hat.out.below.size (Nat.le_trans hb5.size hbn.size))⟩)
        have HR := Lib.hid hrun
        clear hrun ho6 ht6 hown5 hbn ki kz ks kb hb5 hlen2
        go_wp2_with (at_builtin; (refine wpList_append_run rfl (.tmp 24) (.tmp 26) 55 rfl _ _ _ rfl rfl _ HR.out ?_))
        exact ⟨⟨j + 1, by omega, by go_num, HNX⟩, by simp [intOf]; omega⟩
      · have hg1 : decide (ep ≤ X) = false := decide_eq_false hge
        have HS := Lib.hid (HNO.out hge)
        go_wp2_with fail
        exact ⟨⟨j + 1, by omega, by go_num, by rw [HS.out]; exact hat⟩, by simp [intOf]; omega⟩
    · go_wp2_with fail
      go_ret
      obtain rfl : j = M.length := by omega
      exact ⟨pv, cv, rfl, owns_base hat.out.own (Nat.le_succ _), hat.out.below⟩
end Go.Proofs.Ytocphogddjcblaa
