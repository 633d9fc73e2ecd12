/-
  The contracts of strings.Builder's writing methods at this program, out of the laying of strings.ReplaceAll.
-/
import Derived.Test.YtoikbdgbhgokaaaDoorShelf4
namespace Go.Proofs
open Go.Shelf
theorem Tryd.lays166 : Go.Proofs.Lays.n166 Tryd.prog Tryd.lays155_ren := { Tryd.lays155 with }
def Tryd.lays167_ren : Go.Shelf.Ren := ⟨fun | 167 => 23 | 240 => 37 | 276 => 56 | n => n, Tryd.lays155_ren.t, Tryd.lays155_ren.g⟩
theorem Tryd.lays167 : Go.Proofs.Lays.n167 Tryd.prog Tryd.lays167_ren := {
  mixed := by kernel_rfl
  f167 := Tryd.func23.trans (congrArg some (by kernel_rfl))
  f240 := Tryd.func37.trans (congrArg some (by kernel_rfl))
  f276 := Tryd.func56.trans (congrArg some (by kernel_rfl))
  t0 := Tryd.lays155.t0
  a0 := Tryd.lays155.a0
  z0 := Tryd.lays155.z0
  v0 := Tryd.lays155.v0
  t4 := Tryd.lays155.t4
  a4 := Tryd.lays155.a4
  z4 := Tryd.lays155.z4
  v4 := Tryd.lays155.v4
  t5 := Tryd.lays155.t5
  a5 := Tryd.lays155.a5
  z5 := Tryd.lays155.z5
  v5 := Tryd.lays155.v5
  t9 := Tryd.lays155.t9
  a9 := Tryd.lays155.a9
  z9 := Tryd.lays155.z9
  v9 := Tryd.lays155.v9
  t20 := Tryd.lays155.t20
  a20 := Tryd.lays155.a20
  z20 := Tryd.lays155.z20
  v20 := Tryd.lays155.v20
  t37 := Tryd.lays155.t37
  a37 := Tryd.lays155.a37
  z37 := Tryd.lays155.z37
  v37 := Tryd.lays155.v37
  t70 := Tryd.lays155.t70
  a70 := Tryd.lays155.a70
  z70 := Tryd.lays155.z70
  v70 := Tryd.lays155.v70
  t72 := Tryd.lays155.t72
  a72 := Tryd.lays155.a72
  z72 := Tryd.lays155.z72
  v72 := Tryd.lays155.v72
  t75 := Tryd.lays155.t75
  a75 := Tryd.lays155.a75
  z75 := Tryd.lays155.z75
  v75 := Tryd.lays155.v75
  t164 := Tryd.lays155.t164
  a164 := Tryd.lays155.a164
  z164 := Tryd.lays155.z164
  v164 := Tryd.lays155.v164 }
theorem Tryd.Builder_Extra_167 : Builder.Extra Tryd.prog Tryd.lays167_ren := {
  sizeBuilder := by kernel_rfl
  liesBuilder := by kernel_rfl
  t5 := Tryd.underlying5
  a5 := Tryd.isAgg5
  z5 := Tryd.sizeOf5
  v5 := Tryd.zeroValue5
  infoByte := by kernel_rfl
  cellsByte := by kernel_rfl
  sizeByte := by kernel_rfl
  neB5 := by decide }
open Go.RowKit in
theorem Tryd.Builder_WriteByte_k (B b : Nat) (bs : List Value) (c : Int) (w : World) (h : Lib.IsBuilderF 43 5 B b bs w) (hlen : bs.length + 1 ≤ 140737488355328) (hBw : B ≤ w.heap.size) :
    Calls Tryd.prog 23 #[.pointer (some ⟨b, 0, none⟩), .int .u8 c] w fun e w' => e = .returned .nilIface ∧ (Lib.BuilderAtF 43 5 B b (.pointer (some ⟨b, 0, none⟩)) (bs ++ [.int .u8 c]) w' ∧ Below B w w' ∧ Lib.OthersKept 5 (some b) w w') := Any.Builder_WriteByte_k Tryd.lays167 Tryd.Builder_Extra_167 B b bs c w h hlen hBw
open Go.RowKit in
theorem Tryd.Builder_WriteString_k (B b : Nat) (bs : List Value) (s : ByteArray) (w : World) (h : Lib.IsBuilderF 43 5 B b bs w) (hlen : bs.length + s.size ≤ 140737488355328) (hBw : B ≤ w.heap.size) :
    Calls Tryd.prog 24 #[.pointer (some ⟨b, 0, none⟩), .string s] w fun e w' => e = .returned (.tuple #[.int .i64 s.size, .nilIface]) ∧ (Lib.BuilderAtF 43 5 B b (.pointer (some ⟨b, 0, none⟩)) (bs ++ Lib.strCells s) w' ∧ Below B w w' ∧ Lib.OthersKept 5 (some b) w w') := Any.Builder_WriteString_k Tryd.lays166 Tryd.Builder_Extra_155 B b bs s w h hlen hBw
end Go.Proofs
