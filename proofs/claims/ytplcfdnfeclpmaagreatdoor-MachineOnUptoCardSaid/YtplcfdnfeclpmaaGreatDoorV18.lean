/- MachineOn, part 18. -/
import Derived.Handy
import Derived.Test.YtplcfdnfeclpmaaGreatDoorV01
import Derived.Test.YtplcfdnfeclpmaaGreatDoorV04
set_option maxHeartbeats 4000000
set_option maxRecDepth 100000
open Go.Lib (hid)
open Go Go.RowKit Go.Deep Go.Joins Go.Proofs.Tryz

namespace Go.Proofs.YtplcfdnfeclpmaaGreatDoor
def leL (n:Nat):List UInt8:=[UInt8.ofNat n,UInt8.ofNat (n / 256),UInt8.ofNat (n / 65536),UInt8.ofNat (n / 16777216),UInt8.ofNat (n / 4294967296),UInt8.ofNat (n / 1099511627776),UInt8.ofNat (n / 281474976710656),UInt8.ofNat (n / 72057594037927936)]
def zd0 (n s:Nat):ByteArray:=⟨((leL n).take s).toArray⟩
theorem zgH (n:Nat):(leL n).length=8:=rfl
theorem ziO (n s:Nat) (h:s≤8):(zd0 n s).size=s:=by
 show ((leL n).take s).toArray.size=s
 rw [List.size_toArray,List.length_take,zgH];omega
theorem zz9 (m:Nat):Value.int .u8 ((UInt8.ofNat m).toNat:Int)=.int .u8 ((m:Int) % 256):=by
 rw [UInt8.toNat_ofNat']
 congr 1
theorem zqO (n:Nat) (hn:n<18446744073709551616):(dC (leL n)).toArray=#[.int .u8 ((n:Int) % 256),.int .u8 ((n:Int) / 256 % 256),.int .u8 ((n:Int) / 65536 % 256),.int .u8 ((n:Int) / 16777216 % 256),.int .u8 ((n:Int) / 4294967296 % 256),
   .int .u8 ((n:Int) / 1099511627776 % 256),.int .u8 ((n:Int) / 281474976710656 % 256),.int .u8 ((n:Int) / 72057594037927936)]:=by
 have e:((n / 72057594037927936:Nat):Int) % 256=((n / 72057594037927936:Nat):Int):=by omega
 simp only [dC,leL,List.map_cons,List.map_nil,zz9,e];rfl
theorem znr (n s:Nat) (w:World) (hn:n<18446744073709551616) (hs:s≤8) :
  (convert 36 9 (.slice (some ⟨w.heap.size,0,none⟩) s 8)).run Tryz.prog (w.alloc (.cells #[.int .u8 ((n:Int) % 256),.int .u8 ((n:Int) / 256 % 256),.int .u8 ((n:Int) / 65536 % 256),.int .u8 ((n:Int) / 16777216 % 256),.int .u8 ((n:Int) / 4294967296 % 256),
   .int .u8 ((n:Int) / 1099511627776 % 256),.int .u8 ((n:Int) / 281474976710656 % 256),.int .u8 ((n:Int) / 72057594037927936)] 185)) =
  .ok (.string (zd0 n s)) (w.alloc (.cells #[.int .u8 ((n:Int) % 256),.int .u8 ((n:Int) / 256 % 256),.int .u8 ((n:Int) / 65536 % 256),.int .u8 ((n:Int) / 16777216 % 256),.int .u8 ((n:Int) / 4294967296 % 256),
   .int .u8 ((n:Int) / 1099511627776 % 256),.int .u8 ((n:Int) / 281474976710656 % 256),.int .u8 ((n:Int) / 72057594037927936)] 185)):=by
 rw [← zqO n hn]
 have h:=run_convert_bytes_back (P:=Tryz.prog) (w.alloc (.cells (dC (leL n)).toArray 185)) 36 9 5 ⟨w.heap.size,0,none⟩ 8 ((leL n).take s) underlying36 underlying5 underlying9 (fun j hj=>by
  rw [zdx,Nat.zero_add,World.cell?_alloc_new];rw [List.length_take,zgH] at hj;rw [List.getElem?_toArray,dC,List.getElem?_map,List.getElem?_eq_getElem (by rw [zgH];omega),List.getElem_take];rfl)
 rw [List.length_take,zgH,Nat.min_eq_left hs] at h;exact h
theorem zlB (n:Nat) (s:Nat) (w:World) (hn:n<18446744073709551616) (hs:s≤8) :
  TB 144 #[.int .u64 n,.int .i64 s] w (.string (zd0 n s)):=by
 have hcv:=znr n s w hn hs;go_enter func144,ntmps144;go_wp2_with fail
 go_rounds 9
 go_ret;exact ⟨rfl,zag w _⟩
end Go.Proofs.YtplcfdnfeclpmaaGreatDoor
