/- The bytes of a sector. -/
import Derived.Test.YtmbaimcneffnlaaAA
namespace Go.Proofs.Ytmbaimcneffnlaa
open Go.RowKit Go.Deep Go.Joins
theorem cel_next {w w' : World} {k : Nat} {o : Obj} (h : w.heap[k]? = some o) (j : Below w.heap.size w w') : w'.heap[k]? = some o := (j.block k (Array.getElem?_eq_some_iff.1 h).1).trans h
theorem of_lists {a b : ByteArray} (h : a.data.toList = b.data.toList) : a = b := ByteArray.ext (Array.ext' h)
theorem len_data (a : ByteArray) : a.data.toList.length = a.size := by rw [Array.length_toList]; rfl
theorem ext_list (a : ByteArray) (i j : Nat) : (a.extract i j).data.toList = (a.data.toList.drop i).take (j - i) := by
  rw [ByteArray.data_extract, Array.toList_extract, List.extract_eq_take_drop]
theorem app_list (a b : ByteArray) : (a ++ b).data.toList = a.data.toList ++ b.data.toList := by
  rw [ByteArray.data_append, Array.toList_append]
theorem ext_front (pa ts su : ByteArray) (m : Nat) (h : pa.size = m) : ((pa ++ ts) ++ su).extract 0 m = pa := by
  apply of_lists
  rw [ext_list, app_list, app_list, List.drop_zero, Nat.sub_zero, List.append_assoc, List.take_left' (by rw [len_data, h])]
theorem ext_back (pa ts su : ByteArray) (m2 k : Nat) (h : (pa ++ ts).size = m2) (hk : k = ((pa ++ ts) ++ su).size) : ((pa ++ ts) ++ su).extract m2 k = su := by
  apply of_lists
  rw [ext_list, app_list, List.drop_left' (by rw [len_data, h]), List.take_of_length_le]
  rw [len_data, hk, ByteArray.size_append, h]
  omega
theorem ext_mid (pa ts su : ByteArray) (m m2 : Nat) (h : pa.size = m) (h2 : m + ts.size = m2) : ((pa ++ ts) ++ su).extract m m2 = ts := by
  apply of_lists
  rw [ext_list, app_list, app_list, List.append_assoc, List.drop_left' (by rw [len_data, h]), List.take_left' (by rw [len_data]; omega)]
theorem text_spl (D : List UInt8) (off : Nat) (x : ByteArray) (h : off + x.size ≤ D.length) : bytesOf (spl D off x) off x.size = x := by
  apply of_lists
  show (((spl D off x).drop off).take x.size).toArray.toList = _
  unfold spl splice
  rw [List.drop_left' (by rw [List.length_take]; omega), List.take_left' (by rw [len_data])]

end Go.Proofs.Ytmbaimcneffnlaa
