/- The contracts of package varint's functions that have no loop, over this program. -/
import Derived.Test.YtpjcndfamhehlaaProg
import Derived.Test.YtpjcndfamhehlaaVMath
import Derived.WalkKit
import Derived.WalkSpells
import Derived.Below
import Derived.Lib.Hide
import Derived.Laws.Externs
import Derived.Lib.SmallJoins
import Derived.Test.YtpjcndfamhehlaaWKit
import Derived.Deep.RegionHeld3
import Derived.Outline
namespace Go.Proofs.Ytpjcndfamhehlaa
open Go.RowKit

theorem u64_wrap (n : Int) : IntKind.u64.wrap n = n % 18446744073709551616 := by
  simp [IntKind.wrap, IntKind.bits, IntKind.signed]

theorem ret_int {k : IntKind} {a b : Int} (h : a = b) : Ending.returned (.int k a) = .returned (.int k b) := by rw [h]
theorem ret_bs {a b : ByteArray} (h : a = b) : Ending.returned (.string a) = .returned (.string b) := by rw [h]
/-- A part of a string of bytes. -/
theorem ext_mk (l : List UInt8) (a b : Nat) : (ByteArray.mk l.toArray).extract a b = ⟨((l.take b).drop a).toArray⟩ := by
  apply ByteArray.ext
  rw [ByteArray.data_extract]
  rw [List.extract_toArray, List.extract_eq_take_drop, List.drop_take]
theorem app_mk (a b : List UInt8) : ByteArray.mk a.toArray ++ ByteArray.mk b.toArray = ⟨(a ++ b).toArray⟩ := by
  rw [ByteArray.mk_append_mk, ← List.append_toArray]
theorem mk_str {a b : List UInt8} (h : a = b) : ByteArray.mk a.toArray = ⟨b.toArray⟩ := by rw [h]

end Go.Proofs.Ytpjcndfamhehlaa
