/- What the listed variables hold; a world for the witness. No condition beyond what the theorems state. -/
import Derived.Test.YtpdaldpaceolnaaGreatDoorCards
import Derived.Test.YtpdaldpaceolnaaGreatDoorTie
import Derived.Test.YtpdaldpaceolnaaGreatDoorRefs
import Derived.ProofKit
import Derived.Deep.DeepHandedRow
import Derived.Lib.LaidTab
import Derived.Lib.LaidU8T
import Derived.Lib.LaidIn
import Derived.PinnedBridge
import Derived.Lib.SmallJoins
import Derived.OpenShut
import Derived.Shelf.Vars
import Derived.Stop.LaidErr
import Derived.Deep.Slices
namespace Go.Proofs.YtpdaldpaceolnaaGreatDoor
open Go.Joins Go.ChangeShapes Go.WideShapes Go.ChangeAt Go.RowKit Go.Lib Go.Deep
set_option maxRecDepth 100000
theorem own : ownKnob Tryz.prog.godebug = none := by kernel_rfl
theorem acc_eq : (Rows.laid_unicode_utf8_acceptRanges : DataW Unit) = acceptData := by kernel_rfl
theorem tabs_of {W : World} (h : laidMetH Tryz.prog Rows.xmlDeepRow.laid W) : tabs W :=
  utf8Tabs_of_readsT (ρ := Tryz.lays196_ren) (U8Types.of196 Tryz.lays196) ⟨by kernel_rfl, by kernel_rfl, by kernel_rfl, by kernel_rfl, by kernel_rfl, by kernel_rfl, by kernel_rfl⟩
    (by have := Lib.laidMet.reads h (n := "unicode/utf8.first") (.tail _ (.tail _ (.tail _ (.tail _ (.tail _ (.tail _ (.head _))))))); rwa [show Rows.laid_unicode_utf8_first = firstData from Pinned.utf8First_eq] at this)
    (by have := Lib.laidMet.reads h (n := "unicode/utf8.acceptRanges") (.tail _ (.tail _ (.tail _ (.head _)))); rwa [acc_eq] at this)
theorem laidH {W : World} (h : laidMetH Tryz.prog Rows.xmlDeepRow.laid W) : laidMet Tryz.prog Rows.xmlDeepRow.laid W := h
theorem star_err : "*" ++ "errors.errorString" = "*errors.errorString" := by decide
theorem row_err (u : TypeId) (h : Tryz.prog.typeName? 3 u = some "*errors.errorString") : u = 158 :=
  typeName_ptr_named (nm := "errors.errorString") (by rw [star_err]; kernel_rfl) (by kernel_rfl) (by decide) u (by rw [star_err]; exact h)
theorem g_rng : Tryz.prog.globalNamed "strconv.ErrRange" = some 4 := by kernel_rfl
theorem g_syn : Tryz.prog.globalNamed "strconv.ErrSyntax" = some 3 := by kernel_rfl
theorem errs_of {W : World} (h : laidMetH Tryz.prog Rows.xmlDeepRow.laid W) : (∃ v, W.cell? ⟨3, 0, none⟩ = some v ∧ IsIface v) ∧ (∃ v, W.cell? ⟨4, 0, none⟩ = some v ∧ IsIface v) := by
  have h4 := laidMet.tail (laidMet.tail (laidMet.tail (laidMet.tail (laidH h))))
  have h5 := laidMet.tail h4
  obtain ⟨a4, s4, hv4, _, _, _⟩ := laid_sentinel h4 g_rng (by kernel_rfl) Tryz.underlying102 row_err Tryz.underlying158 Tryz.underlying160 rfl rfl Tryz.underlying9 (by kernel_rfl) (by kernel_rfl)
  obtain ⟨a3, s3, hv3, _, _, _⟩ := laid_sentinel h5 g_syn (by kernel_rfl) Tryz.underlying102 row_err Tryz.underlying158 Tryz.underlying160 rfl rfl Tryz.underlying9 (by kernel_rfl) (by kernel_rfl)
  exact ⟨⟨_, by simpa using World.var?_cell g_syn hv3 0, .inr ⟨_, _, rfl⟩⟩, ⟨_, by simpa using World.var?_cell g_rng hv4 0, .inr ⟨_, _, rfl⟩⟩⟩
theorem glob_row : ((begin Tryz.prog (fun _ _ => 0) default).world.heap[2]?).bind Obj.row? = some (#[.int .i64 0], 3) := by kernel_rfl
theorem env_of {W : World} (h : laidMetH Tryz.prog Rows.xmlDeepRow.laid W) (hSh : W.ShapedOpen Tryz.prog) : Env W :=
  ⟨tabs_of h, cell_of_shapedOpen_int (g := 2) (t := 3) (k := .i64) hSh (of_decide_eq_true (by kernel_rfl)) glob_row rfl (by kernel_rfl) (by kernel_rfl) Tryz.underlying3, (errs_of h).1, (errs_of h).2⟩
def bruijn32 : List Int := [0, 1, 28, 2, 29, 14, 24, 3, 30, 22, 20, 15, 25, 17, 4, 8, 31, 27, 13, 23, 21, 19, 16, 7, 26, 12, 18, 6, 11, 5, 10, 9]
def bruijn64 : List Int := [0, 1, 56, 2, 57, 49, 28, 3, 61, 58, 42, 50, 38, 29, 17, 4, 62, 47, 59, 36, 45, 43, 51, 22, 53, 39, 33, 30, 24, 18, 12, 5, 63, 55, 48, 27, 60, 41, 37, 16, 46, 35, 44, 21, 52, 32, 23, 11, 54, 26, 40, 15, 34, 20, 31, 10, 25, 14, 19, 9, 13, 8, 7, 6]
noncomputable def low : Nat := (World.holding Tryz.prog default ⟨#[], #[], []⟩).heap.size
noncomputable def laidWorld (os : Os) : World :=
  let w0 := World.holding Tryz.prog os ⟨#[.cells #[.string ⟨#[118, 97, 108, 117, 101, 32, 111, 117, 116, 32, 111, 102, 32, 114, 97, 110, 103, 101]⟩] 160, .cells #[.string ⟨#[105, 110, 118, 97, 108, 105, 100, 32, 115, 121, 110, 116, 97, 120]⟩] 160], #[], []⟩
  let put (h : Array Obj) (g : Nat) (cs : Array Value) : Array Obj := h.modify g fun
    | .cells _ t frozen => .cells cs t frozen
    | o => o
  let h1 := put w0.heap 5 (Lib.pow10Tab.map fun z => Value.int .u64 z).toArray
  let h2 := put h1 0 (Lib.firstTab.map fun z => Value.int .u8 z).toArray
  let h3 := put h2 1 ((List.range 16).flatMap fun i => [Value.int .u8 (Lib.accLo i), Value.int .u8 (Lib.accHi i)]).toArray
  let h4 := put h3 6 (bruijn32.map fun z => Value.int .u8 z).toArray
  let h5 := put h4 7 (bruijn64.map fun z => Value.int .u8 z).toArray
  let h6 := put h5 4 #[.iface 158 (.pointer (some ⟨low, 0, none⟩))]
  let h7 := put h6 3 #[.iface 158 (.pointer (some ⟨low + 1, 0, none⟩))]
  { w0 with heap := h7 }
theorem laid_met (os : Os) (args : Array Value) : laidMet Tryz.prog Rows.xmlDeepRow.laid ((laidWorld os).forCall (fun _ _ => 0) ⟨#[], args, []⟩).memory :=
  laidMet_of_run' 8 (by kernel_rfl) (by kernel_rfl)
theorem laidOut : laidOutB Tryz.prog = true := by kernel_rfl
end Go.Proofs.YtpdaldpaceolnaaGreatDoor
