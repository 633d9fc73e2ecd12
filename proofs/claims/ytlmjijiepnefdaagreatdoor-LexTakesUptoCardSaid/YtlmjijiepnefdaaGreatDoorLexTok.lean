/-
  The contracts of strings.Clone, and of lex's literal, fraction and symbol.
-/
import Derived.Test.YtlmjijiepnefdaaGreatDoorLexGap
import Derived.Test.YtlmjijiepnefdaaGreatDoorCells
namespace Go.Proofs.YtlmjijiepnefdaaGreatDoor
open Go.RowKit

/-- A token without its place. -/
structure Tok where
  k : Int
  s : List UInt8
  dk : Int
  di : Int
  ds : List UInt8

def Tok.zero : Tok := ⟨0, [], 0, 0, []⟩
def cellsT (t : Tok) (at0 : Int) : Array Value := #[.int .i64 t.k, .string ⟨t.s.toArray⟩, .int .i64 t.dk, .int .i64 t.di, .string ⟨t.ds.toArray⟩, .int .i64 at0]

/-- A token, how many bytes it has, and an error come back; memory of its own alone is made. -/
def TokPost (r : Tok × Nat × Int) (w : World) (e : Ending) (w' : World) : Prop :=
  e = .returned (.tuple #[.agg (cellsT r.1 0), .int .i64 (r.2.1 : Int), .int .i64 r.2.2]) ∧ Below w.heap.size w w'

theorem clone_any (s : ByteArray) (w : World) (hs : s.size ≤ 4000) :
    Calls Tryz.prog 57 #[.string s] w fun e w' => e = .returned (.string s) ∧ Below w.heap.size w w' := by
  have HC := Lib.hid (Tryz.stringslite_Clone s w (by omega))
  go_enter Tryz.func57, Tryz.ntmps57
  go_wp2_with fail
  refine HC.out.mono ?_
  rintro e w1 ⟨rfl, b1⟩
  go_wp2
  go_ret
  exact ⟨rfl, b1⟩

theorem literal_any (k : Int) (s : ByteArray) (w : World) :
    Calls Tryz.prog 53 #[.int .i64 k, .string s] w fun e w' => e = .returned (.agg #[.int .i64 3, .string ⟨#[]⟩, .int .i64 k, .int .i64 0, .string s, .int .i64 0]) ∧ Below w.heap.size w w' := by
  go_enter Tryz.func53, Tryz.ntmps53
  go_wp2
  refine bodyPost_ret ?_ rfl ⟨rfl, ?_⟩
  · simp [results, Tryz.results53, go_sem]
  · exact (Below.refl _ _).alloc (Nat.le_refl _) _

/-- How many digits stand behind a point. -/
def fracN (l : List UInt8) : Nat := if Lib.hasPrefix l [46] then runN digitB (l.drop 1) else 0

theorem fraction_any (s : ByteArray) (w : World) :
    Calls Tryz.prog 59 #[.string s] w (NatPost (fracN s.data.toList) w) := by
  have HC := Lib.hid (Tryz.strings_CutPrefix s ⟨#[46]⟩ w)
  cases hp : Lib.hasPrefix s.data.toList [46]
  · have HF : Hid (fracN s.data.toList = 0) := by unfold Hid fracN; rw [hp]; rfl
    have HP : Hid (Lib.hasPrefix s.data.toList (⟨#[46]⟩ : ByteArray).data.toList = false) := hp
    clear hp
    go_enter Tryz.func59, Tryz.ntmps59
    go_wp2_with fail
    refine HC.out.mono ?_
    rintro e w1 ⟨rfl, rfl⟩
    rw [HP.out]
    go_wp2
    go_ret
    exact ⟨by rw [HF.out]; rfl, Below.refl _ _⟩
  · have HF : Hid (fracN s.data.toList = runN digitB (s.data.toList.drop 1)) := by unfold Hid fracN; rw [hp]; rfl
    have HP : Hid (Lib.hasPrefix s.data.toList (⟨#[46]⟩ : ByteArray).data.toList = true) := hp
    have HT : Hid (Lib.trimPrefix s.data.toList (⟨#[46]⟩ : ByteArray).data.toList = s.data.toList.drop 1) := by unfold Hid Lib.trimPrefix; rw [HP.out]; rfl
    clear hp
    go_enter Tryz.func59, Tryz.ntmps59
    go_wp2_with fail
    refine HC.out.mono ?_
    rintro e w1 ⟨rfl, rfl⟩
    rw [HP.out, HT.out]
    go_wp2_with fail
    refine (run_digit _ _).mono ?_
    rintro e w2 ⟨rfl, b2⟩
    go_wp2
    go_ret
    exact ⟨by rw [HF.out, List.drop_one]; rfl, b2⟩

/-- The symbols, in the program's order. -/
def syms : List (List UInt8) := [[60, 61], [62, 61], [60, 62], [40], [41], [44], [46], [59], [42], [43], [45], [47], [61], [60], [62]]
def symR (l : List UInt8) : Tok × Nat × Int := match syms.find? (fun p => Lib.hasPrefix l p) with
  | some p => (⟨4, p, 0, 0, []⟩, p.length, 0)
  | none => (Tok.zero, 0, 40)

theorem sym_yes {l p : List UInt8} (h : syms.find? (fun p => Lib.hasPrefix l p) = some p) : symR l = (⟨4, p, 0, 0, []⟩, p.length, 0) := by unfold symR; rw [h]
theorem sym_no {l : List UInt8} (h : syms.find? (fun p => Lib.hasPrefix l p) = none) : symR l = (Tok.zero, 0, 40) := by unfold symR; rw [h]
theorem find_yes {α : Type} {f : α → Bool} {a : α} {l : List α} (h : f a = true) : (a :: l).find? f = some a := by rw [List.find?_cons, h]
theorem find_no {α : Type} {f : α → Bool} {a : α} {l : List α} (h : f a = false) : (a :: l).find? f = l.find? f := by rw [List.find?_cons, h]

set_option maxHeartbeats 8000000 in
set_option maxRecDepth 100000 in
theorem symbol_any (s : ByteArray) (w : World) :
    Calls Tryz.prog 40 #[.string s] w (TokPost (symR s.data.toList) w) := by
  have i0 : ∀ w, (Instr.index 78 (.agg #[.string ⟨#[60, 61]⟩, .string ⟨#[62, 61]⟩, .string ⟨#[60, 62]⟩, .string ⟨#[40]⟩, .string ⟨#[41]⟩, .string ⟨#[44]⟩, .string ⟨#[46]⟩, .string ⟨#[59]⟩, .string ⟨#[42]⟩, .string ⟨#[43]⟩, .string ⟨#[45]⟩, .string ⟨#[47]⟩, .string ⟨#[61]⟩, .string ⟨#[60]⟩, .string ⟨#[62]⟩]) (.int .i64 0)).run Tryz.prog w = .ok (.string ⟨#[60, 61]⟩) w := fun _ => by kernel_rfl
  have i1 : ∀ w, (Instr.index 78 (.agg #[.string ⟨#[60, 61]⟩, .string ⟨#[62, 61]⟩, .string ⟨#[60, 62]⟩, .string ⟨#[40]⟩, .string ⟨#[41]⟩, .string ⟨#[44]⟩, .string ⟨#[46]⟩, .string ⟨#[59]⟩, .string ⟨#[42]⟩, .string ⟨#[43]⟩, .string ⟨#[45]⟩, .string ⟨#[47]⟩, .string ⟨#[61]⟩, .string ⟨#[60]⟩, .string ⟨#[62]⟩]) (.int .i64 1)).run Tryz.prog w = .ok (.string ⟨#[62, 61]⟩) w := fun _ => by kernel_rfl
  have i2 : ∀ w, (Instr.index 78 (.agg #[.string ⟨#[60, 61]⟩, .string ⟨#[62, 61]⟩, .string ⟨#[60, 62]⟩, .string ⟨#[40]⟩, .string ⟨#[41]⟩, .string ⟨#[44]⟩, .string ⟨#[46]⟩, .string ⟨#[59]⟩, .string ⟨#[42]⟩, .string ⟨#[43]⟩, .string ⟨#[45]⟩, .string ⟨#[47]⟩, .string ⟨#[61]⟩, .string ⟨#[60]⟩, .string ⟨#[62]⟩]) (.int .i64 2)).run Tryz.prog w = .ok (.string ⟨#[60, 62]⟩) w := fun _ => by kernel_rfl
  have i3 : ∀ w, (Instr.index 78 (.agg #[.string ⟨#[60, 61]⟩, .string ⟨#[62, 61]⟩, .string ⟨#[60, 62]⟩, .string ⟨#[40]⟩, .string ⟨#[41]⟩, .string ⟨#[44]⟩, .string ⟨#[46]⟩, .string ⟨#[59]⟩, .string ⟨#[42]⟩, .string ⟨#[43]⟩, .string ⟨#[45]⟩, .string ⟨#[47]⟩, .string ⟨#[61]⟩, .string ⟨#[60]⟩, .string ⟨#[62]⟩]) (.int .i64 3)).run Tryz.prog w = .ok (.string ⟨#[40]⟩) w := fun _ => by kernel_rfl
  have i4 : ∀ w, (Instr.index 78 (.agg #[.string ⟨#[60, 61]⟩, .string ⟨#[62, 61]⟩, .string ⟨#[60, 62]⟩, .string ⟨#[40]⟩, .string ⟨#[41]⟩, .string ⟨#[44]⟩, .string ⟨#[46]⟩, .string ⟨#[59]⟩, .string ⟨#[42]⟩, .string ⟨#[43]⟩, .string ⟨#[45]⟩, .string ⟨#[47]⟩, .string ⟨#[61]⟩, .string ⟨#[60]⟩, .string ⟨#[62]⟩]) (.int .i64 4)).run Tryz.prog w = .ok (.string ⟨#[41]⟩) w := fun _ => by kernel_rfl
  have i5 : ∀ w, (Instr.index 78 (.agg #[.string ⟨#[60, 61]⟩, .string ⟨#[62, 61]⟩, .string ⟨#[60, 62]⟩, .string ⟨#[40]⟩, .string ⟨#[41]⟩, .string ⟨#[44]⟩, .string ⟨#[46]⟩, .string ⟨#[59]⟩, .string ⟨#[42]⟩, .string ⟨#[43]⟩, .string ⟨#[45]⟩, .string ⟨#[47]⟩, .string ⟨#[61]⟩, .string ⟨#[60]⟩, .string ⟨#[62]⟩]) (.int .i64 5)).run Tryz.prog w = .ok (.string ⟨#[44]⟩) w := fun _ => by kernel_rfl
  have i6 : ∀ w, (Instr.index 78 (.agg #[.string ⟨#[60, 61]⟩, .string ⟨#[62, 61]⟩, .string ⟨#[60, 62]⟩, .string ⟨#[40]⟩, .string ⟨#[41]⟩, .string ⟨#[44]⟩, .string ⟨#[46]⟩, .string ⟨#[59]⟩, .string ⟨#[42]⟩, .string ⟨#[43]⟩, .string ⟨#[45]⟩, .string ⟨#[47]⟩, .string ⟨#[61]⟩, .string ⟨#[60]⟩, .string ⟨#[62]⟩]) (.int .i64 6)).run Tryz.prog w = .ok (.string ⟨#[46]⟩) w := fun _ => by kernel_rfl
  have i7 : ∀ w, (Instr.index 78 (.agg #[.string ⟨#[60, 61]⟩, .string ⟨#[62, 61]⟩, .string ⟨#[60, 62]⟩, .string ⟨#[40]⟩, .string ⟨#[41]⟩, .string ⟨#[44]⟩, .string ⟨#[46]⟩, .string ⟨#[59]⟩, .string ⟨#[42]⟩, .string ⟨#[43]⟩, .string ⟨#[45]⟩, .string ⟨#[47]⟩, .string ⟨#[61]⟩, .string ⟨#[60]⟩, .string ⟨#[62]⟩]) (.int .i64 7)).run Tryz.prog w = .ok (.string ⟨#[59]⟩) w := fun _ => by kernel_rfl
  have i8 : ∀ w, (Instr.index 78 (.agg #[.string ⟨#[60, 61]⟩, .string ⟨#[62, 61]⟩, .string ⟨#[60, 62]⟩, .string ⟨#[40]⟩, .string ⟨#[41]⟩, .string ⟨#[44]⟩, .string ⟨#[46]⟩, .string ⟨#[59]⟩, .string ⟨#[42]⟩, .string ⟨#[43]⟩, .string ⟨#[45]⟩, .string ⟨#[47]⟩, .string ⟨#[61]⟩, .string ⟨#[60]⟩, .string ⟨#[62]⟩]) (.int .i64 8)).run Tryz.prog w = .ok (.string ⟨#[42]⟩) w := fun _ => by kernel_rfl
  have i9 : ∀ w, (Instr.index 78 (.agg #[.string ⟨#[60, 61]⟩, .string ⟨#[62, 61]⟩, .string ⟨#[60, 62]⟩, .string ⟨#[40]⟩, .string ⟨#[41]⟩, .string ⟨#[44]⟩, .string ⟨#[46]⟩, .string ⟨#[59]⟩, .string ⟨#[42]⟩, .string ⟨#[43]⟩, .string ⟨#[45]⟩, .string ⟨#[47]⟩, .string ⟨#[61]⟩, .string ⟨#[60]⟩, .string ⟨#[62]⟩]) (.int .i64 9)).run Tryz.prog w = .ok (.string ⟨#[43]⟩) w := fun _ => by kernel_rfl
  have i10 : ∀ w, (Instr.index 78 (.agg #[.string ⟨#[60, 61]⟩, .string ⟨#[62, 61]⟩, .string ⟨#[60, 62]⟩, .string ⟨#[40]⟩, .string ⟨#[41]⟩, .string ⟨#[44]⟩, .string ⟨#[46]⟩, .string ⟨#[59]⟩, .string ⟨#[42]⟩, .string ⟨#[43]⟩, .string ⟨#[45]⟩, .string ⟨#[47]⟩, .string ⟨#[61]⟩, .string ⟨#[60]⟩, .string ⟨#[62]⟩]) (.int .i64 10)).run Tryz.prog w = .ok (.string ⟨#[45]⟩) w := fun _ => by kernel_rfl
  have i11 : ∀ w, (Instr.index 78 (.agg #[.string ⟨#[60, 61]⟩, .string ⟨#[62, 61]⟩, .string ⟨#[60, 62]⟩, .string ⟨#[40]⟩, .string ⟨#[41]⟩, .string ⟨#[44]⟩, .string ⟨#[46]⟩, .string ⟨#[59]⟩, .string ⟨#[42]⟩, .string ⟨#[43]⟩, .string ⟨#[45]⟩, .string ⟨#[47]⟩, .string ⟨#[61]⟩, .string ⟨#[60]⟩, .string ⟨#[62]⟩]) (.int .i64 11)).run Tryz.prog w = .ok (.string ⟨#[47]⟩) w := fun _ => by kernel_rfl
  have i12 : ∀ w, (Instr.index 78 (.agg #[.string ⟨#[60, 61]⟩, .string ⟨#[62, 61]⟩, .string ⟨#[60, 62]⟩, .string ⟨#[40]⟩, .string ⟨#[41]⟩, .string ⟨#[44]⟩, .string ⟨#[46]⟩, .string ⟨#[59]⟩, .string ⟨#[42]⟩, .string ⟨#[43]⟩, .string ⟨#[45]⟩, .string ⟨#[47]⟩, .string ⟨#[61]⟩, .string ⟨#[60]⟩, .string ⟨#[62]⟩]) (.int .i64 12)).run Tryz.prog w = .ok (.string ⟨#[61]⟩) w := fun _ => by kernel_rfl
  have i13 : ∀ w, (Instr.index 78 (.agg #[.string ⟨#[60, 61]⟩, .string ⟨#[62, 61]⟩, .string ⟨#[60, 62]⟩, .string ⟨#[40]⟩, .string ⟨#[41]⟩, .string ⟨#[44]⟩, .string ⟨#[46]⟩, .string ⟨#[59]⟩, .string ⟨#[42]⟩, .string ⟨#[43]⟩, .string ⟨#[45]⟩, .string ⟨#[47]⟩, .string ⟨#[61]⟩, .string ⟨#[60]⟩, .string ⟨#[62]⟩]) (.int .i64 13)).run Tryz.prog w = .ok (.string ⟨#[60]⟩) w := fun _ => by kernel_rfl
  have i14 : ∀ w, (Instr.index 78 (.agg #[.string ⟨#[60, 61]⟩, .string ⟨#[62, 61]⟩, .string ⟨#[60, 62]⟩, .string ⟨#[40]⟩, .string ⟨#[41]⟩, .string ⟨#[44]⟩, .string ⟨#[46]⟩, .string ⟨#[59]⟩, .string ⟨#[42]⟩, .string ⟨#[43]⟩, .string ⟨#[45]⟩, .string ⟨#[47]⟩, .string ⟨#[61]⟩, .string ⟨#[60]⟩, .string ⟨#[62]⟩]) (.int .i64 14)).run Tryz.prog w = .ok (.string ⟨#[62]⟩) w := fun _ => by kernel_rfl
  go_enter Tryz.func40, Tryz.ntmps40
  go_wp2_with fail
  go_loop [6, 8] (fun _ v => ∃ k : Nat, k ≤ 15 ∧ v = .int .i64 k ∧ Hid (syms.find? (fun p => Lib.hasPrefix s.data.toList p) = (syms.drop k).find? (fun p => Lib.hasPrefix s.data.toList p))) (fun _ v => 15 - (intOf v).toNat)
  case atStart => exact ⟨0, by omega, rfl, rfl⟩
  case round =>
    obtain ⟨k, hk, rfl, HK⟩ := hrel
    have hc : k = 0 ∨ k = 1 ∨ k = 2 ∨ k = 3 ∨ k = 4 ∨ k = 5 ∨ k = 6 ∨ k = 7 ∨ k = 8 ∨ k = 9 ∨ k = 10 ∨ k = 11 ∨ k = 12 ∨ k = 13 ∨ k = 14 ∨ k = 15 := by omega
    rcases hc with rfl | rfl | rfl | rfl | rfl | rfl | rfl | rfl | rfl | rfl | rfl | rfl | rfl | rfl | rfl | rfl
    · cases hp : Lib.hasPrefix s.data.toList [60, 61]
      · have HP : Hid (Lib.hasPrefix s.data.toList (⟨#[60, 61]⟩ : ByteArray).data.toList = false) := hp
        have HN : Hid (syms.find? (fun p => Lib.hasPrefix s.data.toList p) = (syms.drop (0 + 1)).find? (fun p => Lib.hasPrefix s.data.toList p)) := HK.out.trans (find_no (f := fun p => Lib.hasPrefix s.data.toList p) hp)
        clear hp HK
        go_wp2_with fail
        refine (Tryz.strings_HasPrefix _ _ _).mono ?_
        rintro e w1 ⟨rfl, rfl⟩
        rw [HP.out]
        go_wp2_with fail
        go_round
        case rel => exact ⟨0 + 1, by omega, rfl, HN⟩
        case measure => simp [intOf]
      · have HP : Hid (Lib.hasPrefix s.data.toList (⟨#[60, 61]⟩ : ByteArray).data.toList = true) := hp
        have HR : Hid (symR s.data.toList = (⟨4, [60, 61], 0, 0, []⟩, 2, 0)) := sym_yes (HK.out.trans (find_yes (f := fun p => Lib.hasPrefix s.data.toList p) hp))
        clear hp HK
        go_wp2_with fail
        refine (Tryz.strings_HasPrefix _ _ _).mono ?_
        rintro e w1 ⟨rfl, rfl⟩
        rw [HP.out]
        go_wp2_with fail
        refine (clone_any _ _ (by decide)).mono ?_
        rintro e w2 ⟨rfl, b2⟩
        have bX := Blk.below (b := w.heap.size) (cs := cellsT Tok.zero 0) (t := 33) (Blk.at rfl) b2
        have y0 := bX.cell 0
        have y1 := bX.cell 1
        have y2 := bX.cell 2
        have y3 := bX.cell 3
        have y4 := bX.cell 4
        have y5 := bX.cell 5
        simp only [cellsT, Tok.zero, List.getElem?_toArray, List.getElem?_cons_zero, List.getElem?_cons_succ] at y0 y1 y2 y3 y4 y5
        have f0 := bX.frozen 0
        have f1 := bX.frozen 1
        have f2 := bX.frozen 2
        have f3 := bX.frozen 3
        have f4 := bX.frozen 4
        have f5 := bX.frozen 5
        have hb : Below w.heap.size w w2 := Below.trans ((Below.refl _ _).alloc (Nat.le_refl _) _) (b2.mono (by simp))
        clear b2
        go_wp2_with fail
        rw [HR.out]
        refine bodyPost_ret ?_ rfl ⟨rfl, ?_⟩
        · simp [results, Tryz.results40, go_sem, cellsT, y0, y1, y2, y3, y4, y5]
        · exact (((((hb.setCell (Nat.le_refl _) _).setCell (Nat.le_refl _) _).setCell (Nat.le_refl _) _).setCell (Nat.le_refl _) _).setCell (Nat.le_refl _) _).setCell (Nat.le_refl _) _
    · cases hp : Lib.hasPrefix s.data.toList [62, 61]
      · have HP : Hid (Lib.hasPrefix s.data.toList (⟨#[62, 61]⟩ : ByteArray).data.toList = false) := hp
        have HN : Hid (syms.find? (fun p => Lib.hasPrefix s.data.toList p) = (syms.drop (1 + 1)).find? (fun p => Lib.hasPrefix s.data.toList p)) := HK.out.trans (find_no (f := fun p => Lib.hasPrefix s.data.toList p) hp)
        clear hp HK
        go_wp2_with fail
        refine (Tryz.strings_HasPrefix _ _ _).mono ?_
        rintro e w1 ⟨rfl, rfl⟩
        rw [HP.out]
        go_wp2_with fail
        go_round
        case rel => exact ⟨1 + 1, by omega, rfl, HN⟩
        case measure => simp [intOf]
      · have HP : Hid (Lib.hasPrefix s.data.toList (⟨#[62, 61]⟩ : ByteArray).data.toList = true) := hp
        have HR : Hid (symR s.data.toList = (⟨4, [62, 61], 0, 0, []⟩, 2, 0)) := sym_yes (HK.out.trans (find_yes (f := fun p => Lib.hasPrefix s.data.toList p) hp))
        clear hp HK
        go_wp2_with fail
        refine (Tryz.strings_HasPrefix _ _ _).mono ?_
        rintro e w1 ⟨rfl, rfl⟩
        rw [HP.out]
        go_wp2_with fail
        refine (clone_any _ _ (by decide)).mono ?_
        rintro e w2 ⟨rfl, b2⟩
        have bX := Blk.below (b := w.heap.size) (cs := cellsT Tok.zero 0) (t := 33) (Blk.at rfl) b2
        have y0 := bX.cell 0
        have y1 := bX.cell 1
        have y2 := bX.cell 2
        have y3 := bX.cell 3
        have y4 := bX.cell 4
        have y5 := bX.cell 5
        simp only [cellsT, Tok.zero, List.getElem?_toArray, List.getElem?_cons_zero, List.getElem?_cons_succ] at y0 y1 y2 y3 y4 y5
        have f0 := bX.frozen 0
        have f1 := bX.frozen 1
        have f2 := bX.frozen 2
        have f3 := bX.frozen 3
        have f4 := bX.frozen 4
        have f5 := bX.frozen 5
        have hb : Below w.heap.size w w2 := Below.trans ((Below.refl _ _).alloc (Nat.le_refl _) _) (b2.mono (by simp))
        clear b2
        go_wp2_with fail
        rw [HR.out]
        refine bodyPost_ret ?_ rfl ⟨rfl, ?_⟩
        · simp [results, Tryz.results40, go_sem, cellsT, y0, y1, y2, y3, y4, y5]
        · exact (((((hb.setCell (Nat.le_refl _) _).setCell (Nat.le_refl _) _).setCell (Nat.le_refl _) _).setCell (Nat.le_refl _) _).setCell (Nat.le_refl _) _).setCell (Nat.le_refl _) _
    · cases hp : Lib.hasPrefix s.data.toList [60, 62]
      · have HP : Hid (Lib.hasPrefix s.data.toList (⟨#[60, 62]⟩ : ByteArray).data.toList = false) := hp
        have HN : Hid (syms.find? (fun p => Lib.hasPrefix s.data.toList p) = (syms.drop (2 + 1)).find? (fun p => Lib.hasPrefix s.data.toList p)) := HK.out.trans (find_no (f := fun p => Lib.hasPrefix s.data.toList p) hp)
        clear hp HK
        go_wp2_with fail
        refine (Tryz.strings_HasPrefix _ _ _).mono ?_
        rintro e w1 ⟨rfl, rfl⟩
        rw [HP.out]
        go_wp2_with fail
        go_round
        case rel => exact ⟨2 + 1, by omega, rfl, HN⟩
        case measure => simp [intOf]
      · have HP : Hid (Lib.hasPrefix s.data.toList (⟨#[60, 62]⟩ : ByteArray).data.toList = true) := hp
        have HR : Hid (symR s.data.toList = (⟨4, [60, 62], 0, 0, []⟩, 2, 0)) := sym_yes (HK.out.trans (find_yes (f := fun p => Lib.hasPrefix s.data.toList p) hp))
        clear hp HK
        go_wp2_with fail
        refine (Tryz.strings_HasPrefix _ _ _).mono ?_
        rintro e w1 ⟨rfl, rfl⟩
        rw [HP.out]
        go_wp2_with fail
        refine (clone_any _ _ (by decide)).mono ?_
        rintro e w2 ⟨rfl, b2⟩
        have bX := Blk.below (b := w.heap.size) (cs := cellsT Tok.zero 0) (t := 33) (Blk.at rfl) b2
        have y0 := bX.cell 0
        have y1 := bX.cell 1
        have y2 := bX.cell 2
        have y3 := bX.cell 3
        have y4 := bX.cell 4
        have y5 := bX.cell 5
        simp only [cellsT, Tok.zero, List.getElem?_toArray, List.getElem?_cons_zero, List.getElem?_cons_succ] at y0 y1 y2 y3 y4 y5
        have f0 := bX.frozen 0
        have f1 := bX.frozen 1
        have f2 := bX.frozen 2
        have f3 := bX.frozen 3
        have f4 := bX.frozen 4
        have f5 := bX.frozen 5
        have hb : Below w.heap.size w w2 := Below.trans ((Below.refl _ _).alloc (Nat.le_refl _) _) (b2.mono (by simp))
        clear b2
        go_wp2_with fail
        rw [HR.out]
        refine bodyPost_ret ?_ rfl ⟨rfl, ?_⟩
        · simp [results, Tryz.results40, go_sem, cellsT, y0, y1, y2, y3, y4, y5]
        · exact (((((hb.setCell (Nat.le_refl _) _).setCell (Nat.le_refl _) _).setCell (Nat.le_refl _) _).setCell (Nat.le_refl _) _).setCell (Nat.le_refl _) _).setCell (Nat.le_refl _) _
    · cases hp : Lib.hasPrefix s.data.toList [40]
      · have HP : Hid (Lib.hasPrefix s.data.toList (⟨#[40]⟩ : ByteArray).data.toList = false) := hp
        have HN : Hid (syms.find? (fun p => Lib.hasPrefix s.data.toList p) = (syms.drop (3 + 1)).find? (fun p => Lib.hasPrefix s.data.toList p)) := HK.out.trans (find_no (f := fun p => Lib.hasPrefix s.data.toList p) hp)
        clear hp HK
        go_wp2_with fail
        refine (Tryz.strings_HasPrefix _ _ _).mono ?_
        rintro e w1 ⟨rfl, rfl⟩
        rw [HP.out]
        go_wp2_with fail
        go_round
        case rel => exact ⟨3 + 1, by omega, rfl, HN⟩
        case measure => simp [intOf]
      · have HP : Hid (Lib.hasPrefix s.data.toList (⟨#[40]⟩ : ByteArray).data.toList = true) := hp
        have HR : Hid (symR s.data.toList = (⟨4, [40], 0, 0, []⟩, 1, 0)) := sym_yes (HK.out.trans (find_yes (f := fun p => Lib.hasPrefix s.data.toList p) hp))
        clear hp HK
        go_wp2_with fail
        refine (Tryz.strings_HasPrefix _ _ _).mono ?_
        rintro e w1 ⟨rfl, rfl⟩
        rw [HP.out]
        go_wp2_with fail
        refine (clone_any _ _ (by decide)).mono ?_
        rintro e w2 ⟨rfl, b2⟩
        have bX := Blk.below (b := w.heap.size) (cs := cellsT Tok.zero 0) (t := 33) (Blk.at rfl) b2
        have y0 := bX.cell 0
        have y1 := bX.cell 1
        have y2 := bX.cell 2
        have y3 := bX.cell 3
        have y4 := bX.cell 4
        have y5 := bX.cell 5
        simp only [cellsT, Tok.zero, List.getElem?_toArray, List.getElem?_cons_zero, List.getElem?_cons_succ] at y0 y1 y2 y3 y4 y5
        have f0 := bX.frozen 0
        have f1 := bX.frozen 1
        have f2 := bX.frozen 2
        have f3 := bX.frozen 3
        have f4 := bX.frozen 4
        have f5 := bX.frozen 5
        have hb : Below w.heap.size w w2 := Below.trans ((Below.refl _ _).alloc (Nat.le_refl _) _) (b2.mono (by simp))
        clear b2
        go_wp2_with fail
        rw [HR.out]
        refine bodyPost_ret ?_ rfl ⟨rfl, ?_⟩
        · simp [results, Tryz.results40, go_sem, cellsT, y0, y1, y2, y3, y4, y5]
        · exact (((((hb.setCell (Nat.le_refl _) _).setCell (Nat.le_refl _) _).setCell (Nat.le_refl _) _).setCell (Nat.le_refl _) _).setCell (Nat.le_refl _) _).setCell (Nat.le_refl _) _
    · cases hp : Lib.hasPrefix s.data.toList [41]
      · have HP : Hid (Lib.hasPrefix s.data.toList (⟨#[41]⟩ : ByteArray).data.toList = false) := hp
        have HN : Hid (syms.find? (fun p => Lib.hasPrefix s.data.toList p) = (syms.drop (4 + 1)).find? (fun p => Lib.hasPrefix s.data.toList p)) := HK.out.trans (find_no (f := fun p => Lib.hasPrefix s.data.toList p) hp)
        clear hp HK
        go_wp2_with fail
        refine (Tryz.strings_HasPrefix _ _ _).mono ?_
        rintro e w1 ⟨rfl, rfl⟩
        rw [HP.out]
        go_wp2_with fail
        go_round
        case rel => exact ⟨4 + 1, by omega, rfl, HN⟩
        case measure => simp [intOf]
      · have HP : Hid (Lib.hasPrefix s.data.toList (⟨#[41]⟩ : ByteArray).data.toList = true) := hp
        have HR : Hid (symR s.data.toList = (⟨4, [41], 0, 0, []⟩, 1, 0)) := sym_yes (HK.out.trans (find_yes (f := fun p => Lib.hasPrefix s.data.toList p) hp))
        clear hp HK
        go_wp2_with fail
        refine (Tryz.strings_HasPrefix _ _ _).mono ?_
        rintro e w1 ⟨rfl, rfl⟩
        rw [HP.out]
        go_wp2_with fail
        refine (clone_any _ _ (by decide)).mono ?_
        rintro e w2 ⟨rfl, b2⟩
        have bX := Blk.below (b := w.heap.size) (cs := cellsT Tok.zero 0) (t := 33) (Blk.at rfl) b2
        have y0 := bX.cell 0
        have y1 := bX.cell 1
        have y2 := bX.cell 2
        have y3 := bX.cell 3
        have y4 := bX.cell 4
        have y5 := bX.cell 5
        simp only [cellsT, Tok.zero, List.getElem?_toArray, List.getElem?_cons_zero, List.getElem?_cons_succ] at y0 y1 y2 y3 y4 y5
        have f0 := bX.frozen 0
        have f1 := bX.frozen 1
        have f2 := bX.frozen 2
        have f3 := bX.frozen 3
        have f4 := bX.frozen 4
        have f5 := bX.frozen 5
        have hb : Below w.heap.size w w2 := Below.trans ((Below.refl _ _).alloc (Nat.le_refl _) _) (b2.mono (by simp))
        clear b2
        go_wp2_with fail
        rw [HR.out]
        refine bodyPost_ret ?_ rfl ⟨rfl, ?_⟩
        · simp [results, Tryz.results40, go_sem, cellsT, y0, y1, y2, y3, y4, y5]
        · exact (((((hb.setCell (Nat.le_refl _) _).setCell (Nat.le_refl _) _).setCell (Nat.le_refl _) _).setCell (Nat.le_refl _) _).setCell (Nat.le_refl _) _).setCell (Nat.le_refl _) _
    · cases hp : Lib.hasPrefix s.data.toList [44]
      · have HP : Hid (Lib.hasPrefix s.data.toList (⟨#[44]⟩ : ByteArray).data.toList = false) := hp
        have HN : Hid (syms.find? (fun p => Lib.hasPrefix s.data.toList p) = (syms.drop (5 + 1)).find? (fun p => Lib.hasPrefix s.data.toList p)) := HK.out.trans (find_no (f := fun p => Lib.hasPrefix s.data.toList p) hp)
        clear hp HK
        go_wp2_with fail
        refine (Tryz.strings_HasPrefix _ _ _).mono ?_
        rintro e w1 ⟨rfl, rfl⟩
        rw [HP.out]
        go_wp2_with fail
        go_round
        case rel => exact ⟨5 + 1, by omega, rfl, HN⟩
        case measure => simp [intOf]
      · have HP : Hid (Lib.hasPrefix s.data.toList (⟨#[44]⟩ : ByteArray).data.toList = true) := hp
        have HR : Hid (symR s.data.toList = (⟨4, [44], 0, 0, []⟩, 1, 0)) := sym_yes (HK.out.trans (find_yes (f := fun p => Lib.hasPrefix s.data.toList p) hp))
        clear hp HK
        go_wp2_with fail
        refine (Tryz.strings_HasPrefix _ _ _).mono ?_
        rintro e w1 ⟨rfl, rfl⟩
        rw [HP.out]
        go_wp2_with fail
        refine (clone_any _ _ (by decide)).mono ?_
        rintro e w2 ⟨rfl, b2⟩
        have bX := Blk.below (b := w.heap.size) (cs := cellsT Tok.zero 0) (t := 33) (Blk.at rfl) b2
        have y0 := bX.cell 0
        have y1 := bX.cell 1
        have y2 := bX.cell 2
        have y3 := bX.cell 3
        have y4 := bX.cell 4
        have y5 := bX.cell 5
        simp only [cellsT, Tok.zero, List.getElem?_toArray, List.getElem?_cons_zero, List.getElem?_cons_succ] at y0 y1 y2 y3 y4 y5
        have f0 := bX.frozen 0
        have f1 := bX.frozen 1
        have f2 := bX.frozen 2
        have f3 := bX.frozen 3
        have f4 := bX.frozen 4
        have f5 := bX.frozen 5
        have hb : Below w.heap.size w w2 := Below.trans ((Below.refl _ _).alloc (Nat.le_refl _) _) (b2.mono (by simp))
        clear b2
        go_wp2_with fail
        rw [HR.out]
        refine bodyPost_ret ?_ rfl ⟨rfl, ?_⟩
        · simp [results, Tryz.results40, go_sem, cellsT, y0, y1, y2, y3, y4, y5]
        · exact (((((hb.setCell (Nat.le_refl _) _).setCell (Nat.le_refl _) _).setCell (Nat.le_refl _) _).setCell (Nat.le_refl _) _).setCell (Nat.le_refl _) _).setCell (Nat.le_refl _) _
    · cases hp : Lib.hasPrefix s.data.toList [46]
      · have HP : Hid (Lib.hasPrefix s.data.toList (⟨#[46]⟩ : ByteArray).data.toList = false) := hp
        have HN : Hid (syms.find? (fun p => Lib.hasPrefix s.data.toList p) = (syms.drop (6 + 1)).find? (fun p => Lib.hasPrefix s.data.toList p)) := HK.out.trans (find_no (f := fun p => Lib.hasPrefix s.data.toList p) hp)
        clear hp HK
        go_wp2_with fail
        refine (Tryz.strings_HasPrefix _ _ _).mono ?_
        rintro e w1 ⟨rfl, rfl⟩
        rw [HP.out]
        go_wp2_with fail
        go_round
        case rel => exact ⟨6 + 1, by omega, rfl, HN⟩
        case measure => simp [intOf]
      · have HP : Hid (Lib.hasPrefix s.data.toList (⟨#[46]⟩ : ByteArray).data.toList = true) := hp
        have HR : Hid (symR s.data.toList = (⟨4, [46], 0, 0, []⟩, 1, 0)) := sym_yes (HK.out.trans (find_yes (f := fun p => Lib.hasPrefix s.data.toList p) hp))
        clear hp HK
        go_wp2_with fail
        refine (Tryz.strings_HasPrefix _ _ _).mono ?_
        rintro e w1 ⟨rfl, rfl⟩
        rw [HP.out]
        go_wp2_with fail
        refine (clone_any _ _ (by decide)).mono ?_
        rintro e w2 ⟨rfl, b2⟩
        have bX := Blk.below (b := w.heap.size) (cs := cellsT Tok.zero 0) (t := 33) (Blk.at rfl) b2
        have y0 := bX.cell 0
        have y1 := bX.cell 1
        have y2 := bX.cell 2
        have y3 := bX.cell 3
        have y4 := bX.cell 4
        have y5 := bX.cell 5
        simp only [cellsT, Tok.zero, List.getElem?_toArray, List.getElem?_cons_zero, List.getElem?_cons_succ] at y0 y1 y2 y3 y4 y5
        have f0 := bX.frozen 0
        have f1 := bX.frozen 1
        have f2 := bX.frozen 2
        have f3 := bX.frozen 3
        have f4 := bX.frozen 4
        have f5 := bX.frozen 5
        have hb : Below w.heap.size w w2 := Below.trans ((Below.refl _ _).alloc (Nat.le_refl _) _) (b2.mono (by simp))
        clear b2
        go_wp2_with fail
        rw [HR.out]
        refine bodyPost_ret ?_ rfl ⟨rfl, ?_⟩
        · simp [results, Tryz.results40, go_sem, cellsT, y0, y1, y2, y3, y4, y5]
        · exact (((((hb.setCell (Nat.le_refl _) _).setCell (Nat.le_refl _) _).setCell (Nat.le_refl _) _).setCell (Nat.le_refl _) _).setCell (Nat.le_refl _) _).setCell (Nat.le_refl _) _
    · cases hp : Lib.hasPrefix s.data.toList [59]
      · have HP : Hid (Lib.hasPrefix s.data.toList (⟨#[59]⟩ : ByteArray).data.toList = false) := hp
        have HN : Hid (syms.find? (fun p => Lib.hasPrefix s.data.toList p) = (syms.drop (7 + 1)).find? (fun p => Lib.hasPrefix s.data.toList p)) := HK.out.trans (find_no (f := fun p => Lib.hasPrefix s.data.toList p) hp)
        clear hp HK
        go_wp2_with fail
        refine (Tryz.strings_HasPrefix _ _ _).mono ?_
        rintro e w1 ⟨rfl, rfl⟩
        rw [HP.out]
        go_wp2_with fail
        go_round
        case rel => exact ⟨7 + 1, by omega, rfl, HN⟩
        case measure => simp [intOf]
      · have HP : Hid (Lib.hasPrefix s.data.toList (⟨#[59]⟩ : ByteArray).data.toList = true) := hp
        have HR : Hid (symR s.data.toList = (⟨4, [59], 0, 0, []⟩, 1, 0)) := sym_yes (HK.out.trans (find_yes (f := fun p => Lib.hasPrefix s.data.toList p) hp))
        clear hp HK
        go_wp2_with fail
        refine (Tryz.strings_HasPrefix _ _ _).mono ?_
        rintro e w1 ⟨rfl, rfl⟩
        rw [HP.out]
        go_wp2_with fail
        refine (clone_any _ _ (by decide)).mono ?_
        rintro e w2 ⟨rfl, b2⟩
        have bX := Blk.below (b := w.heap.size) (cs := cellsT Tok.zero 0) (t := 33) (Blk.at rfl) b2
        have y0 := bX.cell 0
        have y1 := bX.cell 1
        have y2 := bX.cell 2
        have y3 := bX.cell 3
        have y4 := bX.cell 4
        have y5 := bX.cell 5
        simp only [cellsT, Tok.zero, List.getElem?_toArray, List.getElem?_cons_zero, List.getElem?_cons_succ] at y0 y1 y2 y3 y4 y5
        have f0 := bX.frozen 0
        have f1 := bX.frozen 1
        have f2 := bX.frozen 2
        have f3 := bX.frozen 3
        have f4 := bX.frozen 4
        have f5 := bX.frozen 5
        have hb : Below w.heap.size w w2 := Below.trans ((Below.refl _ _).alloc (Nat.le_refl _) _) (b2.mono (by simp))
        clear b2
        go_wp2_with fail
        rw [HR.out]
        refine bodyPost_ret ?_ rfl ⟨rfl, ?_⟩
        · simp [results, Tryz.results40, go_sem, cellsT, y0, y1, y2, y3, y4, y5]
        · exact (((((hb.setCell (Nat.le_refl _) _).setCell (Nat.le_refl _) _).setCell (Nat.le_refl _) _).setCell (Nat.le_refl _) _).setCell (Nat.le_refl _) _).setCell (Nat.le_refl _) _
    · cases hp : Lib.hasPrefix s.data.toList [42]
      · have HP : Hid (Lib.hasPrefix s.data.toList (⟨#[42]⟩ : ByteArray).data.toList = false) := hp
        have HN : Hid (syms.find? (fun p => Lib.hasPrefix s.data.toList p) = (syms.drop (8 + 1)).find? (fun p => Lib.hasPrefix s.data.toList p)) := HK.out.trans (find_no (f := fun p => Lib.hasPrefix s.data.toList p) hp)
        clear hp HK
        go_wp2_with fail
        refine (Tryz.strings_HasPrefix _ _ _).mono ?_
        rintro e w1 ⟨rfl, rfl⟩
        rw [HP.out]
        go_wp2_with fail
        go_round
        case rel => exact ⟨8 + 1, by omega, rfl, HN⟩
        case measure => simp [intOf]
      · have HP : Hid (Lib.hasPrefix s.data.toList (⟨#[42]⟩ : ByteArray).data.toList = true) := hp
        have HR : Hid (symR s.data.toList = (⟨4, [42], 0, 0, []⟩, 1, 0)) := sym_yes (HK.out.trans (find_yes (f := fun p => Lib.hasPrefix s.data.toList p) hp))
        clear hp HK
        go_wp2_with fail
        refine (Tryz.strings_HasPrefix _ _ _).mono ?_
        rintro e w1 ⟨rfl, rfl⟩
        rw [HP.out]
        go_wp2_with fail
        refine (clone_any _ _ (by decide)).mono ?_
        rintro e w2 ⟨rfl, b2⟩
        have bX := Blk.below (b := w.heap.size) (cs := cellsT Tok.zero 0) (t := 33) (Blk.at rfl) b2
        have y0 := bX.cell 0
        have y1 := bX.cell 1
        have y2 := bX.cell 2
        have y3 := bX.cell 3
        have y4 := bX.cell 4
        have y5 := bX.cell 5
        simp only [cellsT, Tok.zero, List.getElem?_toArray, List.getElem?_cons_zero, List.getElem?_cons_succ] at y0 y1 y2 y3 y4 y5
        have f0 := bX.frozen 0
        have f1 := bX.frozen 1
        have f2 := bX.frozen 2
        have f3 := bX.frozen 3
        have f4 := bX.frozen 4
        have f5 := bX.frozen 5
        have hb : Below w.heap.size w w2 := Below.trans ((Below.refl _ _).alloc (Nat.le_refl _) _) (b2.mono (by simp))
        clear b2
        go_wp2_with fail
        rw [HR.out]
        refine bodyPost_ret ?_ rfl ⟨rfl, ?_⟩
        · simp [results, Tryz.results40, go_sem, cellsT, y0, y1, y2, y3, y4, y5]
        · exact (((((hb.setCell (Nat.le_refl _) _).setCell (Nat.le_refl _) _).setCell (Nat.le_refl _) _).setCell (Nat.le_refl _) _).setCell (Nat.le_refl _) _).setCell (Nat.le_refl _) _
    · cases hp : Lib.hasPrefix s.data.toList [43]
      · have HP : Hid (Lib.hasPrefix s.data.toList (⟨#[43]⟩ : ByteArray).data.toList = false) := hp
        have HN : Hid (syms.find? (fun p => Lib.hasPrefix s.data.toList p) = (syms.drop (9 + 1)).find? (fun p => Lib.hasPrefix s.data.toList p)) := HK.out.trans (find_no (f := fun p => Lib.hasPrefix s.data.toList p) hp)
        clear hp HK
        go_wp2_with fail
        refine (Tryz.strings_HasPrefix _ _ _).mono ?_
        rintro e w1 ⟨rfl, rfl⟩
        rw [HP.out]
        go_wp2_with fail
        go_round
        case rel => exact ⟨9 + 1, by omega, rfl, HN⟩
        case measure => simp [intOf]
      · have HP : Hid (Lib.hasPrefix s.data.toList (⟨#[43]⟩ : ByteArray).data.toList = true) := hp
        have HR : Hid (symR s.data.toList = (⟨4, [43], 0, 0, []⟩, 1, 0)) := sym_yes (HK.out.trans (find_yes (f := fun p => Lib.hasPrefix s.data.toList p) hp))
        clear hp HK
        go_wp2_with fail
        refine (Tryz.strings_HasPrefix _ _ _).mono ?_
        rintro e w1 ⟨rfl, rfl⟩
        rw [HP.out]
        go_wp2_with fail
        refine (clone_any _ _ (by decide)).mono ?_
        rintro e w2 ⟨rfl, b2⟩
        have bX := Blk.below (b := w.heap.size) (cs := cellsT Tok.zero 0) (t := 33) (Blk.at rfl) b2
        have y0 := bX.cell 0
        have y1 := bX.cell 1
        have y2 := bX.cell 2
        have y3 := bX.cell 3
        have y4 := bX.cell 4
        have y5 := bX.cell 5
        simp only [cellsT, Tok.zero, List.getElem?_toArray, List.getElem?_cons_zero, List.getElem?_cons_succ] at y0 y1 y2 y3 y4 y5
        have f0 := bX.frozen 0
        have f1 := bX.frozen 1
        have f2 := bX.frozen 2
        have f3 := bX.frozen 3
        have f4 := bX.frozen 4
        have f5 := bX.frozen 5
        have hb : Below w.heap.size w w2 := Below.trans ((Below.refl _ _).alloc (Nat.le_refl _) _) (b2.mono (by simp))
        clear b2
        go_wp2_with fail
        rw [HR.out]
        refine bodyPost_ret ?_ rfl ⟨rfl, ?_⟩
        · simp [results, Tryz.results40, go_sem, cellsT, y0, y1, y2, y3, y4, y5]
        · exact (((((hb.setCell (Nat.le_refl _) _).setCell (Nat.le_refl _) _).setCell (Nat.le_refl _) _).setCell (Nat.le_refl _) _).setCell (Nat.le_refl _) _).setCell (Nat.le_refl _) _
    · cases hp : Lib.hasPrefix s.data.toList [45]
      · have HP : Hid (Lib.hasPrefix s.data.toList (⟨#[45]⟩ : ByteArray).data.toList = false) := hp
        have HN : Hid (syms.find? (fun p => Lib.hasPrefix s.data.toList p) = (syms.drop (10 + 1)).find? (fun p => Lib.hasPrefix s.data.toList p)) := HK.out.trans (find_no (f := fun p => Lib.hasPrefix s.data.toList p) hp)
        clear hp HK
        go_wp2_with fail
        refine (Tryz.strings_HasPrefix _ _ _).mono ?_
        rintro e w1 ⟨rfl, rfl⟩
        rw [HP.out]
        go_wp2_with fail
        go_round
        case rel => exact ⟨10 + 1, by omega, rfl, HN⟩
        case measure => simp [intOf]
      · have HP : Hid (Lib.hasPrefix s.data.toList (⟨#[45]⟩ : ByteArray).data.toList = true) := hp
        have HR : Hid (symR s.data.toList = (⟨4, [45], 0, 0, []⟩, 1, 0)) := sym_yes (HK.out.trans (find_yes (f := fun p => Lib.hasPrefix s.data.toList p) hp))
        clear hp HK
        go_wp2_with fail
        refine (Tryz.strings_HasPrefix _ _ _).mono ?_
        rintro e w1 ⟨rfl, rfl⟩
        rw [HP.out]
        go_wp2_with fail
        refine (clone_any _ _ (by decide)).mono ?_
        rintro e w2 ⟨rfl, b2⟩
        have bX := Blk.below (b := w.heap.size) (cs := cellsT Tok.zero 0) (t := 33) (Blk.at rfl) b2
        have y0 := bX.cell 0
        have y1 := bX.cell 1
        have y2 := bX.cell 2
        have y3 := bX.cell 3
        have y4 := bX.cell 4
        have y5 := bX.cell 5
        simp only [cellsT, Tok.zero, List.getElem?_toArray, List.getElem?_cons_zero, List.getElem?_cons_succ] at y0 y1 y2 y3 y4 y5
        have f0 := bX.frozen 0
        have f1 := bX.frozen 1
        have f2 := bX.frozen 2
        have f3 := bX.frozen 3
        have f4 := bX.frozen 4
        have f5 := bX.frozen 5
        have hb : Below w.heap.size w w2 := Below.trans ((Below.refl _ _).alloc (Nat.le_refl _) _) (b2.mono (by simp))
        clear b2
        go_wp2_with fail
        rw [HR.out]
        refine bodyPost_ret ?_ rfl ⟨rfl, ?_⟩
        · simp [results, Tryz.results40, go_sem, cellsT, y0, y1, y2, y3, y4, y5]
        · exact (((((hb.setCell (Nat.le_refl _) _).setCell (Nat.le_refl _) _).setCell (Nat.le_refl _) _).setCell (Nat.le_refl _) _).setCell (Nat.le_refl _) _).setCell (Nat.le_refl _) _
    · cases hp : Lib.hasPrefix s.data.toList [47]
      · have HP : Hid (Lib.hasPrefix s.data.toList (⟨#[47]⟩ : ByteArray).data.toList = false) := hp
        have HN : Hid (syms.find? (fun p => Lib.hasPrefix s.data.toList p) = (syms.drop (11 + 1)).find? (fun p => Lib.hasPrefix s.data.toList p)) := HK.out.trans (find_no (f := fun p => Lib.hasPrefix s.data.toList p) hp)
        clear hp HK
        go_wp2_with fail
        refine (Tryz.strings_HasPrefix _ _ _).mono ?_
        rintro e w1 ⟨rfl, rfl⟩
        rw [HP.out]
        go_wp2_with fail
        go_round
        case rel => exact ⟨11 + 1, by omega, rfl, HN⟩
        case measure => simp [intOf]
      · have HP : Hid (Lib.hasPrefix s.data.toList (⟨#[47]⟩ : ByteArray).data.toList = true) := hp
        have HR : Hid (symR s.data.toList = (⟨4, [47], 0, 0, []⟩, 1, 0)) := sym_yes (HK.out.trans (find_yes (f := fun p => Lib.hasPrefix s.data.toList p) hp))
        clear hp HK
        go_wp2_with fail
        refine (Tryz.strings_HasPrefix _ _ _).mono ?_
        rintro e w1 ⟨rfl, rfl⟩
        rw [HP.out]
        go_wp2_with fail
        refine (clone_any _ _ (by decide)).mono ?_
        rintro e w2 ⟨rfl, b2⟩
        have bX := Blk.below (b := w.heap.size) (cs := cellsT Tok.zero 0) (t := 33) (Blk.at rfl) b2
        have y0 := bX.cell 0
        have y1 := bX.cell 1
        have y2 := bX.cell 2
        have y3 := bX.cell 3
        have y4 := bX.cell 4
        have y5 := bX.cell 5
        simp only [cellsT, Tok.zero, List.getElem?_toArray, List.getElem?_cons_zero, List.getElem?_cons_succ] at y0 y1 y2 y3 y4 y5
        have f0 := bX.frozen 0
        have f1 := bX.frozen 1
        have f2 := bX.frozen 2
        have f3 := bX.frozen 3
        have f4 := bX.frozen 4
        have f5 := bX.frozen 5
        have hb : Below w.heap.size w w2 := Below.trans ((Below.refl _ _).alloc (Nat.le_refl _) _) (b2.mono (by simp))
        clear b2
        go_wp2_with fail
        rw [HR.out]
        refine bodyPost_ret ?_ rfl ⟨rfl, ?_⟩
        · simp [results, Tryz.results40, go_sem, cellsT, y0, y1, y2, y3, y4, y5]
        · exact (((((hb.setCell (Nat.le_refl _) _).setCell (Nat.le_refl _) _).setCell (Nat.le_refl _) _).setCell (Nat.le_refl _) _).setCell (Nat.le_refl _) _).setCell (Nat.le_refl _) _
    · cases hp : Lib.hasPrefix s.data.toList [61]
      · have HP : Hid (Lib.hasPrefix s.data.toList (⟨#[61]⟩ : ByteArray).data.toList = false) := hp
        have HN : Hid (syms.find? (fun p => Lib.hasPrefix s.data.toList p) = (syms.drop (12 + 1)).find? (fun p => Lib.hasPrefix s.data.toList p)) := HK.out.trans (find_no (f := fun p => Lib.hasPrefix s.data.toList p) hp)
        clear hp HK
        go_wp2_with fail
        refine (Tryz.strings_HasPrefix _ _ _).mono ?_
        rintro e w1 ⟨rfl, rfl⟩
        rw [HP.out]
        go_wp2_with fail
        go_round
        case rel => exact ⟨12 + 1, by omega, rfl, HN⟩
        case measure => simp [intOf]
      · have HP : Hid (Lib.hasPrefix s.data.toList (⟨#[61]⟩ : ByteArray).data.toList = true) := hp
        have HR : Hid (symR s.data.toList = (⟨4, [61], 0, 0, []⟩, 1, 0)) := sym_yes (HK.out.trans (find_yes (f := fun p => Lib.hasPrefix s.data.toList p) hp))
        clear hp HK
        go_wp2_with fail
        refine (Tryz.strings_HasPrefix _ _ _).mono ?_
        rintro e w1 ⟨rfl, rfl⟩
        rw [HP.out]
        go_wp2_with fail
        refine (clone_any _ _ (by decide)).mono ?_
        rintro e w2 ⟨rfl, b2⟩
        have bX := Blk.below (b := w.heap.size) (cs := cellsT Tok.zero 0) (t := 33) (Blk.at rfl) b2
        have y0 := bX.cell 0
        have y1 := bX.cell 1
        have y2 := bX.cell 2
        have y3 := bX.cell 3
        have y4 := bX.cell 4
        have y5 := bX.cell 5
        simp only [cellsT, Tok.zero, List.getElem?_toArray, List.getElem?_cons_zero, List.getElem?_cons_succ] at y0 y1 y2 y3 y4 y5
        have f0 := bX.frozen 0
        have f1 := bX.frozen 1
        have f2 := bX.frozen 2
        have f3 := bX.frozen 3
        have f4 := bX.frozen 4
        have f5 := bX.frozen 5
        have hb : Below w.heap.size w w2 := Below.trans ((Below.refl _ _).alloc (Nat.le_refl _) _) (b2.mono (by simp))
        clear b2
        go_wp2_with fail
        rw [HR.out]
        refine bodyPost_ret ?_ rfl ⟨rfl, ?_⟩
        · simp [results, Tryz.results40, go_sem, cellsT, y0, y1, y2, y3, y4, y5]
        · exact (((((hb.setCell (Nat.le_refl _) _).setCell (Nat.le_refl _) _).setCell (Nat.le_refl _) _).setCell (Nat.le_refl _) _).setCell (Nat.le_refl _) _).setCell (Nat.le_refl _) _
    · cases hp : Lib.hasPrefix s.data.toList [60]
      · have HP : Hid (Lib.hasPrefix s.data.toList (⟨#[60]⟩ : ByteArray).data.toList = false) := hp
        have HN : Hid (syms.find? (fun p => Lib.hasPrefix s.data.toList p) = (syms.drop (13 + 1)).find? (fun p => Lib.hasPrefix s.data.toList p)) := HK.out.trans (find_no (f := fun p => Lib.hasPrefix s.data.toList p) hp)
        clear hp HK
        go_wp2_with fail
        refine (Tryz.strings_HasPrefix _ _ _).mono ?_
        rintro e w1 ⟨rfl, rfl⟩
        rw [HP.out]
        go_wp2_with fail
        go_round
        case rel => exact ⟨13 + 1, by omega, rfl, HN⟩
        case measure => simp [intOf]
      · have HP : Hid (Lib.hasPrefix s.data.toList (⟨#[60]⟩ : ByteArray).data.toList = true) := hp
        have HR : Hid (symR s.data.toList = (⟨4, [60], 0, 0, []⟩, 1, 0)) := sym_yes (HK.out.trans (find_yes (f := fun p => Lib.hasPrefix s.data.toList p) hp))
        clear hp HK
        go_wp2_with fail
        refine (Tryz.strings_HasPrefix _ _ _).mono ?_
        rintro e w1 ⟨rfl, rfl⟩
        rw [HP.out]
        go_wp2_with fail
        refine (clone_any _ _ (by decide)).mono ?_
        rintro e w2 ⟨rfl, b2⟩
        have bX := Blk.below (b := w.heap.size) (cs := cellsT Tok.zero 0) (t := 33) (Blk.at rfl) b2
        have y0 := bX.cell 0
        have y1 := bX.cell 1
        have y2 := bX.cell 2
        have y3 := bX.cell 3
        have y4 := bX.cell 4
        have y5 := bX.cell 5
        simp only [cellsT, Tok.zero, List.getElem?_toArray, List.getElem?_cons_zero, List.getElem?_cons_succ] at y0 y1 y2 y3 y4 y5
        have f0 := bX.frozen 0
        have f1 := bX.frozen 1
        have f2 := bX.frozen 2
        have f3 := bX.frozen 3
        have f4 := bX.frozen 4
        have f5 := bX.frozen 5
        have hb : Below w.heap.size w w2 := Below.trans ((Below.refl _ _).alloc (Nat.le_refl _) _) (b2.mono (by simp))
        clear b2
        go_wp2_with fail
        rw [HR.out]
        refine bodyPost_ret ?_ rfl ⟨rfl, ?_⟩
        · simp [results, Tryz.results40, go_sem, cellsT, y0, y1, y2, y3, y4, y5]
        · exact (((((hb.setCell (Nat.le_refl _) _).setCell (Nat.le_refl _) _).setCell (Nat.le_refl _) _).setCell (Nat.le_refl _) _).setCell (Nat.le_refl _) _).setCell (Nat.le_refl _) _
    · cases hp : Lib.hasPrefix s.data.toList [62]
      · have HP : Hid (Lib.hasPrefix s.data.toList (⟨#[62]⟩ : ByteArray).data.toList = false) := hp
        have HN : Hid (syms.find? (fun p => Lib.hasPrefix s.data.toList p) = (syms.drop (14 + 1)).find? (fun p => Lib.hasPrefix s.data.toList p)) := HK.out.trans (find_no (f := fun p => Lib.hasPrefix s.data.toList p) hp)
        clear hp HK
        go_wp2_with fail
        refine (Tryz.strings_HasPrefix _ _ _).mono ?_
        rintro e w1 ⟨rfl, rfl⟩
        rw [HP.out]
        go_wp2_with fail
        go_round
        case rel => exact ⟨14 + 1, by omega, rfl, HN⟩
        case measure => simp [intOf]
      · have HP : Hid (Lib.hasPrefix s.data.toList (⟨#[62]⟩ : ByteArray).data.toList = true) := hp
        have HR : Hid (symR s.data.toList = (⟨4, [62], 0, 0, []⟩, 1, 0)) := sym_yes (HK.out.trans (find_yes (f := fun p => Lib.hasPrefix s.data.toList p) hp))
        clear hp HK
        go_wp2_with fail
        refine (Tryz.strings_HasPrefix _ _ _).mono ?_
        rintro e w1 ⟨rfl, rfl⟩
        rw [HP.out]
        go_wp2_with fail
        refine (clone_any _ _ (by decide)).mono ?_
        rintro e w2 ⟨rfl, b2⟩
        have bX := Blk.below (b := w.heap.size) (cs := cellsT Tok.zero 0) (t := 33) (Blk.at rfl) b2
        have y0 := bX.cell 0
        have y1 := bX.cell 1
        have y2 := bX.cell 2
        have y3 := bX.cell 3
        have y4 := bX.cell 4
        have y5 := bX.cell 5
        simp only [cellsT, Tok.zero, List.getElem?_toArray, List.getElem?_cons_zero, List.getElem?_cons_succ] at y0 y1 y2 y3 y4 y5
        have f0 := bX.frozen 0
        have f1 := bX.frozen 1
        have f2 := bX.frozen 2
        have f3 := bX.frozen 3
        have f4 := bX.frozen 4
        have f5 := bX.frozen 5
        have hb : Below w.heap.size w w2 := Below.trans ((Below.refl _ _).alloc (Nat.le_refl _) _) (b2.mono (by simp))
        clear b2
        go_wp2_with fail
        rw [HR.out]
        refine bodyPost_ret ?_ rfl ⟨rfl, ?_⟩
        · simp [results, Tryz.results40, go_sem, cellsT, y0, y1, y2, y3, y4, y5]
        · exact (((((hb.setCell (Nat.le_refl _) _).setCell (Nat.le_refl _) _).setCell (Nat.le_refl _) _).setCell (Nat.le_refl _) _).setCell (Nat.le_refl _) _).setCell (Nat.le_refl _) _
    · have HR : Hid (symR s.data.toList = (Tok.zero, 0, 40)) := sym_no HK.out
      clear HK
      go_wp2_with fail
      rw [HR.out]
      refine bodyPost_ret ?_ rfl ⟨rfl, (Below.refl _ _).alloc (Nat.le_refl _) _⟩
      simp [results, Tryz.results40, go_sem, cellsT, Tok.zero]

end Go.Proofs.YtlmjijiepnefdaaGreatDoor
