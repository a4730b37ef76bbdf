/- The statement NodeBack. No condition beyond what the theorems state. -/
import Derived.Test.YtcmlfkoeajpliaaDoorTree
import Derived.Test.YtcmlfkoeajpliaaDoorSame
import Derived.Test.YtcmlfkoeajpliaaDoorLwWake
import Derived.Test.YtcmlfkoeajpliaaDoorRefFew
import Derived.Test.YtcmlfkoeajpliaaDoorNesting
import Derived.Test.YtcmlfkoeajpliaaDoorRefRight
namespace Go.Proofs.YtcmlfkoeajpliaaDoor
open Go.RowKit Go.Lib Go.Proofs
set_option maxRecDepth 100000
set_option maxHeartbeats 16000000
theorem lk {listed : Array Bool} {i j : Nat} {p : Prop} (F : listed.getD j false = true → p) (h : i ≠ j := by decide) : (listed.setIfInBounds i true).getD j false = true → p := fun q => F (ls h q)
theorem cell_call {w w' : World} {B o : Nat} {v : Value} (h : w.cell? ⟨B, o, none⟩ = some v) (hb : Below w.heap.size w w') : w'.cell? ⟨B, o, none⟩ = some v := ((bcell hb).1 B o (World.block_lt_of_cell? w _ h)).trans h
/-- A value that is a tree of new memory. -/
def TrOf (T : PT) (w : World) (s : Value) : Prop := ∃ t8 : Tr, s = t8.v ∧ t8.pl = T ∧ t8.In (fun b => b < w.heap.size) w
theorem TrOf.call {T : PT} {w w' : World} {s : Value} (h : TrOf T w s) (hb : Below w.heap.size w w') : TrOf T w' s := by
  obtain ⟨t8, h1, h2, h3⟩ := h
  exact ⟨t8, h1, h2, h3.keep (fun b hb' => Nat.lt_of_lt_of_le hb' hb.size) (fun p hp => hb.cell hp)⟩
def NbI (w0 : World) (k n m : Int) (nm v : List UInt8) (Pa : Option Addr) (np ac : Nat) (Pk : Option Addr) (nk kc : Nat) (T : PT) (x : ByteArray) (sb gb : Nat) (c0 c1 c3 c6 c12 c13 c14 c15 c16 c17 c18 c19 c20 c21 c22 c23 c24 c25 c26 c27 c28 c29 c30 c31 c32 c33 c34 c35 c36 c37 c38 c39 c40 c41 c42 c43 c44 c45 c46 c47 c48 c49 c50 c51 c52 c53 c54 c55 c56 c57 c58 c59 c60 c61 c62 : Value) (listed : Array Bool) (A : Act) (w : World) : Prop := ∃ (s4 s63 s64 s65 s66 s67 s68 s69 s70 s71 s72 s73 s74 s75 s76 s77 s78 s79 s80 s81 s82 s83 s84 s85 s86 s87 s88 s89 s90 s91 s92 s93 s94 s95 s96 s97 s98 s99 s100 s101 s102 s103 s104 s105 s106 s107 s108 s109 s110 s111 s112 s113 s114 s115 s116 : Value), A = { tmps := #[c0, c1, .pointer (some ⟨gb, 0, none⟩), c3, s4, .pointer (some ⟨sb, 0, none⟩), c6, .int .i64 1, .int .i64 0, .int .i64 n, .int .i64 (n + 1), .int .i64 0, c12, c13, c14, c15, c16, c17, c18, c19, c20, c21, c22, c23, c24, c25, c26, c27, c28, c29, c30, c31, c32, c33, c34, c35, c36, c37, c38, c39, c40, c41, c42, c43, c44, c45, c46, c47, c48, c49, c50, c51, c52, c53, c54, c55, c56, c57, c58, c59, c60, c61, c62, s63, s64, s65, s66, s67, s68, s69, s70, s71, s72, s73, s74, s75, s76, s77, s78, s79, s80, s81, s82, s83, s84, s85, s86, s87, s88, s89, s90, s91, s92, s93, s94, s95, s96, s97, s98, s99, s100, s101, s102, s103, s104, s105, s106, s107, s108, s109, s110, s111, s112, s113, s114, s115, s116], defers := [] } ∧
  (listed.getD 0 false = true → s63 = .int .i64 0) ∧
  (listed.getD 1 false = true → s64 = .bool true) ∧
  (listed.getD 2 false = true → s65 = .bool true) ∧
  (listed.getD 3 false = true → s66 = .int .i64 0) ∧
  (listed.getD 4 false = true → s67 = .bool true) ∧
  (listed.getD 5 false = true → s68 = .bool true) ∧
  (listed.getD 6 false = true → s69 = .bool true) ∧
  (listed.getD 7 false = true → s70 = .int .i64 1) ∧
  (listed.getD 8 false = true → s71 = .bool true) ∧
  (listed.getD 9 false = true → s72 = .bool true) ∧
  (listed.getD 10 false = true → s73 = .bool true) ∧
  (listed.getD 11 false = true → s74 = .int .i64 (n + 1)) ∧
  (listed.getD 12 false = true → s75 = .int .i64 n) ∧
  (listed.getD 13 false = true → s76 = .int .i64 (n + 1)) ∧
  (listed.getD 14 false = true → s77 = .bool true) ∧
  (listed.getD 15 false = true → s78 = .bool true) ∧
  (listed.getD 16 false = true → s79 = .bool true) ∧
  (listed.getD 17 false = true → s80 = .pointer (some ⟨sb, 0, none⟩)) ∧
  (listed.getD 18 false = true → s81 = .int .i64 1) ∧
  (listed.getD 19 false = true → TrOf T w s82) ∧
  (listed.getD 20 false = true → s83 = .agg #[.int .i64 k, .string (ba' nm), .string (ba' v), .slice Pa np ac, .slice Pk nk kc]) ∧
  (listed.getD 21 false = true → s84 = .bool true) ∧
  (listed.getD 22 false = true → s85 = .bool true) ∧
  (listed.getD 23 false = true → s86 = .bool true) ∧
  (listed.getD 24 false = true → s87 = .pointer (some ⟨sb, 0, none⟩)) ∧
  (listed.getD 25 false = true → s88 = .int .i64 (n + 1)) ∧
  (listed.getD 26 false = true → TrOf T w s89) ∧
  (listed.getD 27 false = true → s90 = .agg #[.int .i64 k, .string (ba' nm), .string (ba' v), .slice Pa np ac, .slice Pk nk kc]) ∧
  (listed.getD 28 false = true → s91 = .bool true) ∧
  (listed.getD 29 false = true → s92 = .bool true) ∧
  (listed.getD 30 false = true → s93 = .bool true) ∧
  (listed.getD 31 false = true → s94 = .pointer (some ⟨sb, 0, none⟩)) ∧
  (listed.getD 32 false = true → s95 = .int .i64 1) ∧
  (listed.getD 33 false = true → s96 = .string x) ∧
  (listed.getD 34 false = true → s97 = .pointer (some ⟨sb, 0, none⟩)) ∧
  (listed.getD 35 false = true → s98 = .int .i64 (n + 1)) ∧
  (listed.getD 36 false = true → s99 = .string x) ∧
  (listed.getD 37 false = true → s100 = .bool true) ∧
  (listed.getD 38 false = true → s101 = .bool true) ∧
  (listed.getD 39 false = true → s102 = .bool true) ∧
  (listed.getD 40 false = true → s103 = .pointer (some ⟨sb, 0, none⟩)) ∧
  (listed.getD 41 false = true → s104 = .int .i64 (n + 1)) ∧
  (listed.getD 42 false = true → s105 = .int .i64 (n + 1)) ∧
  (listed.getD 43 false = true → s106 = .int .i64 (n + 1)) ∧
  (listed.getD 44 false = true → s107 = .bool true) ∧
  (listed.getD 45 false = true → s108 = .bool true) ∧
  (listed.getD 46 false = true → s109 = .bool true) ∧
  (listed.getD 47 false = true → s110 = .pointer (some ⟨sb, 0, none⟩)) ∧
  (listed.getD 48 false = true → s111 = .int .i64 (n + 1)) ∧
  (listed.getD 49 false = true → s112 = .int .i64 m) ∧
  (listed.getD 50 false = true → s113 = .pointer (some ⟨sb, 0, none⟩)) ∧
  (listed.getD 51 false = true → s114 = .int .i64 m) ∧
  (listed.getD 52 false = true → s115 = .bool true) ∧
  (listed.getD 53 false = true → s116 = .bool true) ∧
  (listed.getD 54 false = true → s4 = .bool true) ∧
  Below w0.heap.size w0 w ∧
  w.cell? ⟨gb, 0, none⟩ = some (.int .i64 k) ∧
  w.cell? ⟨gb, 1, none⟩ = some (.string (ba' nm)) ∧
  w.cell? ⟨gb, 2, none⟩ = some (.string (ba' v)) ∧
  w.cell? ⟨gb, 3, none⟩ = some (.slice Pa np ac) ∧
  w.cell? ⟨gb, 4, none⟩ = some (.slice Pk nk kc)
set_option maxRecDepth 100000 in
set_option maxHeartbeats 16000000 in
theorem Nb_region (k n m : Int) (nm v : List UInt8) (Pa : Option Addr) (np ac : Nat) (Pk : Option Addr) (nk kc : Nat) (T : PT) (x : ByteArray) (sb gb : Nat) (x4 x63 x64 x65 x66 x67 x68 x69 x70 x71 x72 x73 x74 x75 x76 x77 x78 x79 x80 x81 x82 x83 x84 x85 x86 x87 x88 x89 x90 x91 x92 x93 x94 x95 x96 x97 x98 x99 x100 x101 x102 x103 x104 x105 x106 x107 x108 x109 x110 x111 x112 x113 x114 x115 x116 : Value) (c0 c1 c3 c6 c12 c13 c14 c15 c16 c17 c18 c19 c20 c21 c22 c23 c24 c25 c26 c27 c28 c29 c30 c31 c32 c33 c34 c35 c36 c37 c38 c39 c40 c41 c42 c43 c44 c45 c46 c47 c48 c49 c50 c51 c52 c53 c54 c55 c56 c57 c58 c59 c60 c61 c62 : Value) (w0 W : World) (Q : Exit → Act → World → Prop) (hb0 : Below w0.heap.size w0 W) (C0 : W.cell? ⟨gb, 0, none⟩ = some (.int .i64 k)) (C1 : W.cell? ⟨gb, 1, none⟩ = some (.string (ba' nm))) (C2 : W.cell? ⟨gb, 2, none⟩ = some (.string (ba' v))) (C3 : W.cell? ⟨gb, 3, none⟩ = some (.slice Pa np ac)) (C4 : W.cell? ⟨gb, 4, none⟩ = some (.slice Pk nk kc)) (hn0 : 0 ≤ n) (hn1 : n ≤ 1048576) (H1 : Hid (∀ w1 : World, Below w0.heap.size w0 w1 → Calls Tryd.prog 26 #[.pointer (some ⟨sb, 0, none⟩), .int .i64 1] w1 fun e w' => ∃ ss, e = .returned ss ∧ TrOf T w' ss ∧ Below w1.heap.size w1 w')) (H2 : Hid (∀ w1 : World, Below w0.heap.size w0 w1 → ∀ t8 : Tr, t8.In (fun b => b < w1.heap.size) w1 → t8.pl = T → Calls Tryd.prog 27 #[t8.v, .agg #[.int .i64 k, .string (ba' nm), .string (ba' v), .slice Pa np ac, .slice Pk nk kc]] w1 fun e w' => e = .returned (.bool true) ∧ Below w1.heap.size w1 w')) (H3 : Hid (∀ w1 : World, Below w0.heap.size w0 w1 → Calls Tryd.prog 26 #[.pointer (some ⟨sb, 0, none⟩), .int .i64 (n + 1)] w1 fun e w' => ∃ ss, e = .returned ss ∧ TrOf T w' ss ∧ Below w1.heap.size w1 w')) (H4 : Hid (∀ w1 : World, Below w0.heap.size w0 w1 → Calls Tryd.prog 28 #[.pointer (some ⟨sb, 0, none⟩), .int .i64 1] w1 fun e w' => e = .returned (.string x) ∧ Below w1.heap.size w1 w')) (H5 : Hid (∀ w1 : World, Below w0.heap.size w0 w1 → Calls Tryd.prog 28 #[.pointer (some ⟨sb, 0, none⟩), .int .i64 (n + 1)] w1 fun e w' => e = .returned (.string x) ∧ Below w1.heap.size w1 w')) (H6 : Hid (∀ w1 : World, Below w0.heap.size w0 w1 → Calls Tryd.prog 29 #[.pointer (some ⟨sb, 0, none⟩), .int .i64 (n + 1)] w1 fun e w' => e = .returned (.int .i64 (n + 1)) ∧ Below w1.heap.size w1 w')) (H7 : Hid (∀ w1 : World, Below w0.heap.size w0 w1 → Calls Tryd.prog 30 #[.pointer (some ⟨sb, 0, none⟩), .int .i64 (n + 1)] w1 fun e w' => e = .returned (.int .i64 m) ∧ Below w1.heap.size w1 w')) (H8 : Hid (∀ w1 : World, Below w0.heap.size w0 w1 → Calls Tryd.prog 22 #[.pointer (some ⟨sb, 0, none⟩)] w1 fun e w' => e = .returned (.int .i64 m) ∧ Below w1.heap.size w1 w'))
    (hQ : ∀ (w : World) (y82 y89 : Value) , (True) → Below w0.heap.size w0 w → Q .normal { tmps := #[c0, c1, .pointer (some ⟨gb, 0, none⟩), c3, .bool true, .pointer (some ⟨sb, 0, none⟩), c6, .int .i64 1, .int .i64 0, .int .i64 n, .int .i64 (n + 1), .int .i64 0, c12, c13, c14, c15, c16, c17, c18, c19, c20, c21, c22, c23, c24, c25, c26, c27, c28, c29, c30, c31, c32, c33, c34, c35, c36, c37, c38, c39, c40, c41, c42, c43, c44, c45, c46, c47, c48, c49, c50, c51, c52, c53, c54, c55, c56, c57, c58, c59, c60, c61, c62, .int .i64 0, .bool true, .bool true, .int .i64 0, .bool true, .bool true, .bool true, .int .i64 1, .bool true, .bool true, .bool true, .int .i64 (n + 1), .int .i64 n, .int .i64 (n + 1), .bool true, .bool true, .bool true, .pointer (some ⟨sb, 0, none⟩), .int .i64 1, y82, .agg #[.int .i64 k, .string (ba' nm), .string (ba' v), .slice Pa np ac, .slice Pk nk kc], .bool true, .bool true, .bool true, .pointer (some ⟨sb, 0, none⟩), .int .i64 (n + 1), y89, .agg #[.int .i64 k, .string (ba' nm), .string (ba' v), .slice Pa np ac, .slice Pk nk kc], .bool true, .bool true, .bool true, .pointer (some ⟨sb, 0, none⟩), .int .i64 1, .string x, .pointer (some ⟨sb, 0, none⟩), .int .i64 (n + 1), .string x, .bool true, .bool true, .bool true, .pointer (some ⟨sb, 0, none⟩), .int .i64 (n + 1), .int .i64 (n + 1), .int .i64 (n + 1), .bool true, .bool true, .bool true, .pointer (some ⟨sb, 0, none⟩), .int .i64 (n + 1), .int .i64 m, .pointer (some ⟨sb, 0, none⟩), .int .i64 m, .bool true, .bool true], defers := [] } w) :
    Code.wp Tryd.prog ((Tryd.f4.body.bind (regionOf 10)).getD .skip) Q { tmps := #[c0, c1, .pointer (some ⟨gb, 0, none⟩), c3, x4, .pointer (some ⟨sb, 0, none⟩), c6, .int .i64 1, .int .i64 0, .int .i64 n, .int .i64 (n + 1), .int .i64 0, c12, c13, c14, c15, c16, c17, c18, c19, c20, c21, c22, c23, c24, c25, c26, c27, c28, c29, c30, c31, c32, c33, c34, c35, c36, c37, c38, c39, c40, c41, c42, c43, c44, c45, c46, c47, c48, c49, c50, c51, c52, c53, c54, c55, c56, c57, c58, c59, c60, c61, c62, x63, x64, x65, x66, x67, x68, x69, x70, x71, x72, x73, x74, x75, x76, x77, x78, x79, x80, x81, x82, x83, x84, x85, x86, x87, x88, x89, x90, x91, x92, x93, x94, x95, x96, x97, x98, x99, x100, x101, x102, x103, x104, x105, x106, x107, x108, x109, x110, x111, x112, x113, x114, x115, x116], defers := [] } W := by
  conv => arg 2; whnf
  refine wp_region_inv (by kernel_rfl) (by kernel_rfl) (NbI w0 k n m nm v Pa np ac Pk nk kc T x sb gb c0 c1 c3 c6 c12 c13 c14 c15 c16 c17 c18 c19 c20 c21 c22 c23 c24 c25 c26 c27 c28 c29 c30 c31 c32 c33 c34 c35 c36 c37 c38 c39 c40 c41 c42 c43 c44 c45 c46 c47 c48 c49 c50 c51 c52 c53 c54 c55 c56 c57 c58 c59 c60 c61 c62) ?_ ?_ ?_
  · exact ⟨_, _, _, _, _, _, _, _, _, _, _, _, _, _, _, _, _, _, _, _, _, _, _, _, _, _, _, _, _, _, _, _, _, _, _, _, _, _, _, _, _, _, _, _, _, _, _, _, _, _, _, _, _, _, _, rfl, fun h => absurd h l0, fun h => absurd h l0, fun h => absurd h l0, fun h => absurd h l0, fun h => absurd h l0, fun h => absurd h l0, fun h => absurd h l0, fun h => absurd h l0, fun h => absurd h l0, fun h => absurd h l0, fun h => absurd h l0, fun h => absurd h l0, fun h => absurd h l0, fun h => absurd h l0, fun h => absurd h l0, fun h => absurd h l0, fun h => absurd h l0, fun h => absurd h l0, fun h => absurd h l0, fun h => absurd h l0, fun h => absurd h l0, fun h => absurd h l0, fun h => absurd h l0, fun h => absurd h l0, fun h => absurd h l0, fun h => absurd h l0, fun h => absurd h l0, fun h => absurd h l0, fun h => absurd h l0, fun h => absurd h l0, fun h => absurd h l0, fun h => absurd h l0, fun h => absurd h l0, fun h => absurd h l0, fun h => absurd h l0, fun h => absurd h l0, fun h => absurd h l0, fun h => absurd h l0, fun h => absurd h l0, fun h => absurd h l0, fun h => absurd h l0, fun h => absurd h l0, fun h => absurd h l0, fun h => absurd h l0, fun h => absurd h l0, fun h => absurd h l0, fun h => absurd h l0, fun h => absurd h l0, fun h => absurd h l0, fun h => absurd h l0, fun h => absurd h l0, fun h => absurd h l0, fun h => absurd h l0, fun h => absurd h l0, fun h => absurd h l0, bdr hb0, C0, C1, C2, C3, C4⟩
  · intro i o listed A w hi ho hd hn hI
    unfold NbI at hI
    obtain ⟨s4, hI⟩ := hI
    obtain ⟨s63, hI⟩ := hI
    obtain ⟨s64, hI⟩ := hI
    obtain ⟨s65, hI⟩ := hI
    obtain ⟨s66, hI⟩ := hI
    obtain ⟨s67, hI⟩ := hI
    obtain ⟨s68, hI⟩ := hI
    obtain ⟨s69, hI⟩ := hI
    obtain ⟨s70, hI⟩ := hI
    obtain ⟨s71, hI⟩ := hI
    obtain ⟨s72, hI⟩ := hI
    obtain ⟨s73, hI⟩ := hI
    obtain ⟨s74, hI⟩ := hI
    obtain ⟨s75, hI⟩ := hI
    obtain ⟨s76, hI⟩ := hI
    obtain ⟨s77, hI⟩ := hI
    obtain ⟨s78, hI⟩ := hI
    obtain ⟨s79, hI⟩ := hI
    obtain ⟨s80, hI⟩ := hI
    obtain ⟨s81, hI⟩ := hI
    obtain ⟨s82, hI⟩ := hI
    obtain ⟨s83, hI⟩ := hI
    obtain ⟨s84, hI⟩ := hI
    obtain ⟨s85, hI⟩ := hI
    obtain ⟨s86, hI⟩ := hI
    obtain ⟨s87, hI⟩ := hI
    obtain ⟨s88, hI⟩ := hI
    obtain ⟨s89, hI⟩ := hI
    obtain ⟨s90, hI⟩ := hI
    obtain ⟨s91, hI⟩ := hI
    obtain ⟨s92, hI⟩ := hI
    obtain ⟨s93, hI⟩ := hI
    obtain ⟨s94, hI⟩ := hI
    obtain ⟨s95, hI⟩ := hI
    obtain ⟨s96, hI⟩ := hI
    obtain ⟨s97, hI⟩ := hI
    obtain ⟨s98, hI⟩ := hI
    obtain ⟨s99, hI⟩ := hI
    obtain ⟨s100, hI⟩ := hI
    obtain ⟨s101, hI⟩ := hI
    obtain ⟨s102, hI⟩ := hI
    obtain ⟨s103, hI⟩ := hI
    obtain ⟨s104, hI⟩ := hI
    obtain ⟨s105, hI⟩ := hI
    obtain ⟨s106, hI⟩ := hI
    obtain ⟨s107, hI⟩ := hI
    obtain ⟨s108, hI⟩ := hI
    obtain ⟨s109, hI⟩ := hI
    obtain ⟨s110, hI⟩ := hI
    obtain ⟨s111, hI⟩ := hI
    obtain ⟨s112, hI⟩ := hI
    obtain ⟨s113, hI⟩ := hI
    obtain ⟨s114, hI⟩ := hI
    obtain ⟨s115, hI⟩ := hI
    obtain ⟨s116, hI⟩ := hI
    obtain ⟨rfl, hI⟩ := hI
    obtain ⟨F0, hI⟩ := hI
    obtain ⟨F1, hI⟩ := hI
    obtain ⟨F2, hI⟩ := hI
    obtain ⟨F3, hI⟩ := hI
    obtain ⟨F4, hI⟩ := hI
    obtain ⟨F5, hI⟩ := hI
    obtain ⟨F6, hI⟩ := hI
    obtain ⟨F7, hI⟩ := hI
    obtain ⟨F8, hI⟩ := hI
    obtain ⟨F9, hI⟩ := hI
    obtain ⟨F10, hI⟩ := hI
    obtain ⟨F11, hI⟩ := hI
    obtain ⟨F12, hI⟩ := hI
    obtain ⟨F13, hI⟩ := hI
    obtain ⟨F14, hI⟩ := hI
    obtain ⟨F15, hI⟩ := hI
    obtain ⟨F16, hI⟩ := hI
    obtain ⟨F17, hI⟩ := hI
    obtain ⟨F18, hI⟩ := hI
    obtain ⟨F19, hI⟩ := hI
    obtain ⟨F20, hI⟩ := hI
    obtain ⟨F21, hI⟩ := hI
    obtain ⟨F22, hI⟩ := hI
    obtain ⟨F23, hI⟩ := hI
    obtain ⟨F24, hI⟩ := hI
    obtain ⟨F25, hI⟩ := hI
    obtain ⟨F26, hI⟩ := hI
    obtain ⟨F27, hI⟩ := hI
    obtain ⟨F28, hI⟩ := hI
    obtain ⟨F29, hI⟩ := hI
    obtain ⟨F30, hI⟩ := hI
    obtain ⟨F31, hI⟩ := hI
    obtain ⟨F32, hI⟩ := hI
    obtain ⟨F33, hI⟩ := hI
    obtain ⟨F34, hI⟩ := hI
    obtain ⟨F35, hI⟩ := hI
    obtain ⟨F36, hI⟩ := hI
    obtain ⟨F37, hI⟩ := hI
    obtain ⟨F38, hI⟩ := hI
    obtain ⟨F39, hI⟩ := hI
    obtain ⟨F40, hI⟩ := hI
    obtain ⟨F41, hI⟩ := hI
    obtain ⟨F42, hI⟩ := hI
    obtain ⟨F43, hI⟩ := hI
    obtain ⟨F44, hI⟩ := hI
    obtain ⟨F45, hI⟩ := hI
    obtain ⟨F46, hI⟩ := hI
    obtain ⟨F47, hI⟩ := hI
    obtain ⟨F48, hI⟩ := hI
    obtain ⟨F49, hI⟩ := hI
    obtain ⟨F50, hI⟩ := hI
    obtain ⟨F51, hI⟩ := hI
    obtain ⟨F52, hI⟩ := hI
    obtain ⟨F53, hI⟩ := hI
    obtain ⟨F54, hI⟩ := hI
    obtain ⟨F55, hI⟩ := hI
    obtain ⟨F56, hI⟩ := hI
    obtain ⟨F57, hI⟩ := hI
    obtain ⟨F58, hI⟩ := hI
    obtain ⟨F59, hI⟩ := hI
    have F60 := hI; clear hI
    have hi' : i < 55 := hi
    clear hi
    rcases (by omega : i = 0 ∨ i = 1 ∨ i = 2 ∨ i = 3 ∨ i = 4 ∨ i = 5 ∨ i = 6 ∨ i = 7 ∨ i = 8 ∨ i = 9 ∨ i = 10 ∨ i = 11 ∨ i = 12 ∨ i = 13 ∨ i = 14 ∨ i = 15 ∨ i = 16 ∨ i = 17 ∨ i = 18 ∨ i = 19 ∨ i = 20 ∨ i = 21 ∨ i = 22 ∨ i = 23 ∨ i = 24 ∨ i = 25 ∨ i = 26 ∨ i = 27 ∨ i = 28 ∨ i = 29 ∨ i = 30 ∨ i = 31 ∨ i = 32 ∨ i = 33 ∨ i = 34 ∨ i = 35 ∨ i = 36 ∨ i = 37 ∨ i = 38 ∨ i = 39 ∨ i = 40 ∨ i = 41 ∨ i = 42 ∨ i = 43 ∨ i = 44 ∨ i = 45 ∨ i = 46 ∨ i = 47 ∨ i = 48 ∨ i = 49 ∨ i = 50 ∨ i = 51 ∨ i = 52 ∨ i = 53 ∨ i = 54) with rfl | rfl | rfl | rfl | rfl | rfl | rfl | rfl | rfl | rfl | rfl | rfl | rfl | rfl | rfl | rfl | rfl | rfl | rfl | rfl | rfl | rfl | rfl | rfl | rfl | rfl | rfl | rfl | rfl | rfl | rfl | rfl | rfl | rfl | rfl | rfl | rfl | rfl | rfl | rfl | rfl | rfl | rfl | rfl | rfl | rfl | rfl | rfl | rfl | rfl | rfl | rfl | rfl | rfl | rfl
    · simp only [List.getElem?_toArray, List.getElem?_cons_zero, Option.some.injEq] at ho
      subst ho
      refine wpOp_step rfl (fun K hK => ?_)
      go_simp
      refine hK _ _ ?_
      exact ⟨_, _, _, _, _, _, _, _, _, _, _, _, _, _, _, _, _, _, _, _, _, _, _, _, _, _, _, _, _, _, _, _, _, _, _, _, _, _, _, _, _, _, _, _, _, _, _, _, _, _, _, _, _, _, _, rfl, fun _ => rfl, lk F1, lk F2, lk F3, lk F4, lk F5, lk F6, lk F7, lk F8, lk F9, lk F10, lk F11, lk F12, lk F13, lk F14, lk F15, lk F16, lk F17, lk F18, fun h => F19 (ls (by decide) h), lk F20, lk F21, lk F22, lk F23, lk F24, lk F25, fun h => F26 (ls (by decide) h), lk F27, lk F28, lk F29, lk F30, lk F31, lk F32, lk F33, lk F34, lk F35, lk F36, lk F37, lk F38, lk F39, lk F40, lk F41, lk F42, lk F43, lk F44, lk F45, lk F46, lk F47, lk F48, lk F49, lk F50, lk F51, lk F52, lk F53, lk F54, F55, F56, F57, F58, F59, F60⟩
    · simp only [List.getElem?_toArray, List.getElem?_cons_zero, List.getElem?_cons_succ, Option.some.injEq] at ho
      subst ho
      obtain rfl := F0 (hd ⟨0, .data⟩ (by simp) rfl)
      refine wpOp_step rfl (fun K hK => ?_)
      go_simp
      refine hK _ _ ?_
      exact ⟨_, _, _, _, _, _, _, _, _, _, _, _, _, _, _, _, _, _, _, _, _, _, _, _, _, _, _, _, _, _, _, _, _, _, _, _, _, _, _, _, _, _, _, _, _, _, _, _, _, _, _, _, _, _, _, rfl, lk F0, fun _ => rfl, lk F2, lk F3, lk F4, lk F5, lk F6, lk F7, lk F8, lk F9, lk F10, lk F11, lk F12, lk F13, lk F14, lk F15, lk F16, lk F17, lk F18, fun h => F19 (ls (by decide) h), lk F20, lk F21, lk F22, lk F23, lk F24, lk F25, fun h => F26 (ls (by decide) h), lk F27, lk F28, lk F29, lk F30, lk F31, lk F32, lk F33, lk F34, lk F35, lk F36, lk F37, lk F38, lk F39, lk F40, lk F41, lk F42, lk F43, lk F44, lk F45, lk F46, lk F47, lk F48, lk F49, lk F50, lk F51, lk F52, lk F53, lk F54, F55, F56, F57, F58, F59, F60⟩
    · simp only [List.getElem?_toArray, List.getElem?_cons_zero, List.getElem?_cons_succ, Option.some.injEq] at ho
      subst ho
      obtain rfl := F1 (hd ⟨1, .data⟩ (by simp) rfl)
      refine wpOp_step rfl (fun K hK => ?_)
      go_simp
      refine hK _ _ ?_
      exact ⟨_, _, _, _, _, _, _, _, _, _, _, _, _, _, _, _, _, _, _, _, _, _, _, _, _, _, _, _, _, _, _, _, _, _, _, _, _, _, _, _, _, _, _, _, _, _, _, _, _, _, _, _, _, _, _, rfl, lk F0, lk F1, fun _ => rfl, lk F3, lk F4, lk F5, lk F6, lk F7, lk F8, lk F9, lk F10, lk F11, lk F12, lk F13, lk F14, lk F15, lk F16, lk F17, lk F18, fun h => F19 (ls (by decide) h), lk F20, lk F21, lk F22, lk F23, lk F24, lk F25, fun h => F26 (ls (by decide) h), lk F27, lk F28, lk F29, lk F30, lk F31, lk F32, lk F33, lk F34, lk F35, lk F36, lk F37, lk F38, lk F39, lk F40, lk F41, lk F42, lk F43, lk F44, lk F45, lk F46, lk F47, lk F48, lk F49, lk F50, lk F51, lk F52, lk F53, lk F54, F55, F56, F57, F58, F59, F60⟩
    · simp only [List.getElem?_toArray, List.getElem?_cons_zero, List.getElem?_cons_succ, Option.some.injEq] at ho
      subst ho
      obtain rfl := F2 (hd ⟨2, .guard⟩ (by simp) rfl)
      refine wpOp_step rfl (fun K hK => ?_)
      go_simp
      refine hK _ _ ?_
      exact ⟨_, _, _, _, _, _, _, _, _, _, _, _, _, _, _, _, _, _, _, _, _, _, _, _, _, _, _, _, _, _, _, _, _, _, _, _, _, _, _, _, _, _, _, _, _, _, _, _, _, _, _, _, _, _, _, rfl, lk F0, lk F1, lk F2, fun _ => rfl, lk F4, lk F5, lk F6, lk F7, lk F8, lk F9, lk F10, lk F11, lk F12, lk F13, lk F14, lk F15, lk F16, lk F17, lk F18, fun h => F19 (ls (by decide) h), lk F20, lk F21, lk F22, lk F23, lk F24, lk F25, fun h => F26 (ls (by decide) h), lk F27, lk F28, lk F29, lk F30, lk F31, lk F32, lk F33, lk F34, lk F35, lk F36, lk F37, lk F38, lk F39, lk F40, lk F41, lk F42, lk F43, lk F44, lk F45, lk F46, lk F47, lk F48, lk F49, lk F50, lk F51, lk F52, lk F53, lk F54, F55, F56, F57, F58, F59, F60⟩
    · simp only [List.getElem?_toArray, List.getElem?_cons_zero, List.getElem?_cons_succ, Option.some.injEq] at ho
      subst ho
      obtain rfl := F3 (hd ⟨3, .data⟩ (by simp) rfl)
      obtain rfl := F2 (hd ⟨2, .guard⟩ (by simp) rfl)
      refine wpOp_step rfl (fun K hK => ?_)
      go_simp
      refine hK _ _ ?_
      exact ⟨_, _, _, _, _, _, _, _, _, _, _, _, _, _, _, _, _, _, _, _, _, _, _, _, _, _, _, _, _, _, _, _, _, _, _, _, _, _, _, _, _, _, _, _, _, _, _, _, _, _, _, _, _, _, _, rfl, lk F0, lk F1, lk F2, lk F3, fun _ => rfl, lk F5, lk F6, lk F7, lk F8, lk F9, lk F10, lk F11, lk F12, lk F13, lk F14, lk F15, lk F16, lk F17, lk F18, fun h => F19 (ls (by decide) h), lk F20, lk F21, lk F22, lk F23, lk F24, lk F25, fun h => F26 (ls (by decide) h), lk F27, lk F28, lk F29, lk F30, lk F31, lk F32, lk F33, lk F34, lk F35, lk F36, lk F37, lk F38, lk F39, lk F40, lk F41, lk F42, lk F43, lk F44, lk F45, lk F46, lk F47, lk F48, lk F49, lk F50, lk F51, lk F52, lk F53, lk F54, F55, F56, F57, F58, F59, F60⟩
    · simp only [List.getElem?_toArray, List.getElem?_cons_zero, List.getElem?_cons_succ, Option.some.injEq] at ho
      subst ho
      obtain rfl := F2 (hd ⟨2, .data⟩ (by simp) rfl)
      obtain rfl := F4 (hd ⟨4, .data⟩ (by simp) rfl)
      refine wpOp_step rfl (fun K hK => ?_)
      go_simp
      refine hK _ _ ?_
      exact ⟨_, _, _, _, _, _, _, _, _, _, _, _, _, _, _, _, _, _, _, _, _, _, _, _, _, _, _, _, _, _, _, _, _, _, _, _, _, _, _, _, _, _, _, _, _, _, _, _, _, _, _, _, _, _, _, rfl, lk F0, lk F1, lk F2, lk F3, lk F4, fun _ => rfl, lk F6, lk F7, lk F8, lk F9, lk F10, lk F11, lk F12, lk F13, lk F14, lk F15, lk F16, lk F17, lk F18, fun h => F19 (ls (by decide) h), lk F20, lk F21, lk F22, lk F23, lk F24, lk F25, fun h => F26 (ls (by decide) h), lk F27, lk F28, lk F29, lk F30, lk F31, lk F32, lk F33, lk F34, lk F35, lk F36, lk F37, lk F38, lk F39, lk F40, lk F41, lk F42, lk F43, lk F44, lk F45, lk F46, lk F47, lk F48, lk F49, lk F50, lk F51, lk F52, lk F53, lk F54, F55, F56, F57, F58, F59, F60⟩
    · simp only [List.getElem?_toArray, List.getElem?_cons_zero, List.getElem?_cons_succ, Option.some.injEq] at ho
      subst ho
      obtain rfl := F5 (hd ⟨5, .data⟩ (by simp) rfl)
      refine wpOp_step rfl (fun K hK => ?_)
      go_simp
      refine hK _ _ ?_
      exact ⟨_, _, _, _, _, _, _, _, _, _, _, _, _, _, _, _, _, _, _, _, _, _, _, _, _, _, _, _, _, _, _, _, _, _, _, _, _, _, _, _, _, _, _, _, _, _, _, _, _, _, _, _, _, _, _, rfl, lk F0, lk F1, lk F2, lk F3, lk F4, lk F5, fun _ => rfl, lk F7, lk F8, lk F9, lk F10, lk F11, lk F12, lk F13, lk F14, lk F15, lk F16, lk F17, lk F18, fun h => F19 (ls (by decide) h), lk F20, lk F21, lk F22, lk F23, lk F24, lk F25, fun h => F26 (ls (by decide) h), lk F27, lk F28, lk F29, lk F30, lk F31, lk F32, lk F33, lk F34, lk F35, lk F36, lk F37, lk F38, lk F39, lk F40, lk F41, lk F42, lk F43, lk F44, lk F45, lk F46, lk F47, lk F48, lk F49, lk F50, lk F51, lk F52, lk F53, lk F54, F55, F56, F57, F58, F59, F60⟩
    · simp only [List.getElem?_toArray, List.getElem?_cons_zero, List.getElem?_cons_succ, Option.some.injEq] at ho
      subst ho
      obtain rfl := F6 (hd ⟨6, .guard⟩ (by simp) rfl)
      refine wpOp_step rfl (fun K hK => ?_)
      go_simp
      refine hK _ _ ?_
      exact ⟨_, _, _, _, _, _, _, _, _, _, _, _, _, _, _, _, _, _, _, _, _, _, _, _, _, _, _, _, _, _, _, _, _, _, _, _, _, _, _, _, _, _, _, _, _, _, _, _, _, _, _, _, _, _, _, rfl, lk F0, lk F1, lk F2, lk F3, lk F4, lk F5, lk F6, fun _ => rfl, lk F8, lk F9, lk F10, lk F11, lk F12, lk F13, lk F14, lk F15, lk F16, lk F17, lk F18, fun h => F19 (ls (by decide) h), lk F20, lk F21, lk F22, lk F23, lk F24, lk F25, fun h => F26 (ls (by decide) h), lk F27, lk F28, lk F29, lk F30, lk F31, lk F32, lk F33, lk F34, lk F35, lk F36, lk F37, lk F38, lk F39, lk F40, lk F41, lk F42, lk F43, lk F44, lk F45, lk F46, lk F47, lk F48, lk F49, lk F50, lk F51, lk F52, lk F53, lk F54, F55, F56, F57, F58, F59, F60⟩
    · simp only [List.getElem?_toArray, List.getElem?_cons_zero, List.getElem?_cons_succ, Option.some.injEq] at ho
      subst ho
      obtain rfl := F7 (hd ⟨7, .data⟩ (by simp) rfl)
      obtain rfl := F6 (hd ⟨6, .guard⟩ (by simp) rfl)
      refine wpOp_step rfl (fun K hK => ?_)
      go_simp
      refine hK _ _ ?_
      exact ⟨_, _, _, _, _, _, _, _, _, _, _, _, _, _, _, _, _, _, _, _, _, _, _, _, _, _, _, _, _, _, _, _, _, _, _, _, _, _, _, _, _, _, _, _, _, _, _, _, _, _, _, _, _, _, _, rfl, lk F0, lk F1, lk F2, lk F3, lk F4, lk F5, lk F6, lk F7, fun _ => rfl, lk F9, lk F10, lk F11, lk F12, lk F13, lk F14, lk F15, lk F16, lk F17, lk F18, fun h => F19 (ls (by decide) h), lk F20, lk F21, lk F22, lk F23, lk F24, lk F25, fun h => F26 (ls (by decide) h), lk F27, lk F28, lk F29, lk F30, lk F31, lk F32, lk F33, lk F34, lk F35, lk F36, lk F37, lk F38, lk F39, lk F40, lk F41, lk F42, lk F43, lk F44, lk F45, lk F46, lk F47, lk F48, lk F49, lk F50, lk F51, lk F52, lk F53, lk F54, F55, F56, F57, F58, F59, F60⟩
    · simp only [List.getElem?_toArray, List.getElem?_cons_zero, List.getElem?_cons_succ, Option.some.injEq] at ho
      subst ho
      obtain rfl := F6 (hd ⟨6, .data⟩ (by simp) rfl)
      obtain rfl := F8 (hd ⟨8, .data⟩ (by simp) rfl)
      refine wpOp_step rfl (fun K hK => ?_)
      go_simp
      refine hK _ _ ?_
      exact ⟨_, _, _, _, _, _, _, _, _, _, _, _, _, _, _, _, _, _, _, _, _, _, _, _, _, _, _, _, _, _, _, _, _, _, _, _, _, _, _, _, _, _, _, _, _, _, _, _, _, _, _, _, _, _, _, rfl, lk F0, lk F1, lk F2, lk F3, lk F4, lk F5, lk F6, lk F7, lk F8, fun _ => rfl, lk F10, lk F11, lk F12, lk F13, lk F14, lk F15, lk F16, lk F17, lk F18, fun h => F19 (ls (by decide) h), lk F20, lk F21, lk F22, lk F23, lk F24, lk F25, fun h => F26 (ls (by decide) h), lk F27, lk F28, lk F29, lk F30, lk F31, lk F32, lk F33, lk F34, lk F35, lk F36, lk F37, lk F38, lk F39, lk F40, lk F41, lk F42, lk F43, lk F44, lk F45, lk F46, lk F47, lk F48, lk F49, lk F50, lk F51, lk F52, lk F53, lk F54, F55, F56, F57, F58, F59, F60⟩
    · simp only [List.getElem?_toArray, List.getElem?_cons_zero, List.getElem?_cons_succ, Option.some.injEq] at ho
      subst ho
      obtain rfl := F9 (hd ⟨9, .data⟩ (by simp) rfl)
      refine wpOp_step rfl (fun K hK => ?_)
      go_simp
      refine hK _ _ ?_
      exact ⟨_, _, _, _, _, _, _, _, _, _, _, _, _, _, _, _, _, _, _, _, _, _, _, _, _, _, _, _, _, _, _, _, _, _, _, _, _, _, _, _, _, _, _, _, _, _, _, _, _, _, _, _, _, _, _, rfl, lk F0, lk F1, lk F2, lk F3, lk F4, lk F5, lk F6, lk F7, lk F8, lk F9, fun _ => rfl, lk F11, lk F12, lk F13, lk F14, lk F15, lk F16, lk F17, lk F18, fun h => F19 (ls (by decide) h), lk F20, lk F21, lk F22, lk F23, lk F24, lk F25, fun h => F26 (ls (by decide) h), lk F27, lk F28, lk F29, lk F30, lk F31, lk F32, lk F33, lk F34, lk F35, lk F36, lk F37, lk F38, lk F39, lk F40, lk F41, lk F42, lk F43, lk F44, lk F45, lk F46, lk F47, lk F48, lk F49, lk F50, lk F51, lk F52, lk F53, lk F54, F55, F56, F57, F58, F59, F60⟩
    · simp only [List.getElem?_toArray, List.getElem?_cons_zero, List.getElem?_cons_succ, Option.some.injEq] at ho
      subst ho
      obtain rfl := F10 (hd ⟨10, .guard⟩ (by simp) rfl)
      refine wpOp_step rfl (fun K hK => ?_)
      go_simp
      refine hK _ _ ?_
      exact ⟨_, _, _, _, _, _, _, _, _, _, _, _, _, _, _, _, _, _, _, _, _, _, _, _, _, _, _, _, _, _, _, _, _, _, _, _, _, _, _, _, _, _, _, _, _, _, _, _, _, _, _, _, _, _, _, rfl, lk F0, lk F1, lk F2, lk F3, lk F4, lk F5, lk F6, lk F7, lk F8, lk F9, lk F10, fun _ => rfl, lk F12, lk F13, lk F14, lk F15, lk F16, lk F17, lk F18, fun h => F19 (ls (by decide) h), lk F20, lk F21, lk F22, lk F23, lk F24, lk F25, fun h => F26 (ls (by decide) h), lk F27, lk F28, lk F29, lk F30, lk F31, lk F32, lk F33, lk F34, lk F35, lk F36, lk F37, lk F38, lk F39, lk F40, lk F41, lk F42, lk F43, lk F44, lk F45, lk F46, lk F47, lk F48, lk F49, lk F50, lk F51, lk F52, lk F53, lk F54, F55, F56, F57, F58, F59, F60⟩
    · simp only [List.getElem?_toArray, List.getElem?_cons_zero, List.getElem?_cons_succ, Option.some.injEq] at ho
      subst ho
      obtain rfl := F10 (hd ⟨10, .guard⟩ (by simp) rfl)
      refine wpOp_step rfl (fun K hK => ?_)
      go_simp
      refine hK _ _ ?_
      exact ⟨_, _, _, _, _, _, _, _, _, _, _, _, _, _, _, _, _, _, _, _, _, _, _, _, _, _, _, _, _, _, _, _, _, _, _, _, _, _, _, _, _, _, _, _, _, _, _, _, _, _, _, _, _, _, _, rfl, lk F0, lk F1, lk F2, lk F3, lk F4, lk F5, lk F6, lk F7, lk F8, lk F9, lk F10, lk F11, fun _ => rfl, lk F13, lk F14, lk F15, lk F16, lk F17, lk F18, fun h => F19 (ls (by decide) h), lk F20, lk F21, lk F22, lk F23, lk F24, lk F25, fun h => F26 (ls (by decide) h), lk F27, lk F28, lk F29, lk F30, lk F31, lk F32, lk F33, lk F34, lk F35, lk F36, lk F37, lk F38, lk F39, lk F40, lk F41, lk F42, lk F43, lk F44, lk F45, lk F46, lk F47, lk F48, lk F49, lk F50, lk F51, lk F52, lk F53, lk F54, F55, F56, F57, F58, F59, F60⟩
    · simp only [List.getElem?_toArray, List.getElem?_cons_zero, List.getElem?_cons_succ, Option.some.injEq] at ho
      subst ho
      obtain rfl := F12 (hd ⟨12, .data⟩ (by simp) rfl)
      obtain rfl := F10 (hd ⟨10, .guard⟩ (by simp) rfl)
      have hwn : IntKind.i64.wrap (n + 1) = n + 1 := by rw [IntKind.wrap_i64]; omega
      refine wpOp_step rfl (fun K hK => ?_)
      go_simp
      refine hK _ _ ?_
      exact ⟨_, _, _, _, _, _, _, _, _, _, _, _, _, _, _, _, _, _, _, _, _, _, _, _, _, _, _, _, _, _, _, _, _, _, _, _, _, _, _, _, _, _, _, _, _, _, _, _, _, _, _, _, _, _, _, rfl, lk F0, lk F1, lk F2, lk F3, lk F4, lk F5, lk F6, lk F7, lk F8, lk F9, lk F10, lk F11, lk F12, fun _ => rfl, lk F14, lk F15, lk F16, lk F17, lk F18, fun h => F19 (ls (by decide) h), lk F20, lk F21, lk F22, lk F23, lk F24, lk F25, fun h => F26 (ls (by decide) h), lk F27, lk F28, lk F29, lk F30, lk F31, lk F32, lk F33, lk F34, lk F35, lk F36, lk F37, lk F38, lk F39, lk F40, lk F41, lk F42, lk F43, lk F44, lk F45, lk F46, lk F47, lk F48, lk F49, lk F50, lk F51, lk F52, lk F53, lk F54, F55, F56, F57, F58, F59, F60⟩
    · simp only [List.getElem?_toArray, List.getElem?_cons_zero, List.getElem?_cons_succ, Option.some.injEq] at ho
      subst ho
      obtain rfl := F11 (hd ⟨11, .data⟩ (by simp) rfl)
      obtain rfl := F13 (hd ⟨13, .data⟩ (by simp) rfl)
      obtain rfl := F10 (hd ⟨10, .guard⟩ (by simp) rfl)
      refine wpOp_step rfl (fun K hK => ?_)
      go_simp
      refine hK _ _ ?_
      exact ⟨_, _, _, _, _, _, _, _, _, _, _, _, _, _, _, _, _, _, _, _, _, _, _, _, _, _, _, _, _, _, _, _, _, _, _, _, _, _, _, _, _, _, _, _, _, _, _, _, _, _, _, _, _, _, _, rfl, lk F0, lk F1, lk F2, lk F3, lk F4, lk F5, lk F6, lk F7, lk F8, lk F9, lk F10, lk F11, lk F12, lk F13, fun _ => rfl, lk F15, lk F16, lk F17, lk F18, fun h => F19 (ls (by decide) h), lk F20, lk F21, lk F22, lk F23, lk F24, lk F25, fun h => F26 (ls (by decide) h), lk F27, lk F28, lk F29, lk F30, lk F31, lk F32, lk F33, lk F34, lk F35, lk F36, lk F37, lk F38, lk F39, lk F40, lk F41, lk F42, lk F43, lk F44, lk F45, lk F46, lk F47, lk F48, lk F49, lk F50, lk F51, lk F52, lk F53, lk F54, F55, F56, F57, F58, F59, F60⟩
    · simp only [List.getElem?_toArray, List.getElem?_cons_zero, List.getElem?_cons_succ, Option.some.injEq] at ho
      subst ho
      obtain rfl := F10 (hd ⟨10, .data⟩ (by simp) rfl)
      obtain rfl := F14 (hd ⟨14, .data⟩ (by simp) rfl)
      refine wpOp_step rfl (fun K hK => ?_)
      go_simp
      refine hK _ _ ?_
      exact ⟨_, _, _, _, _, _, _, _, _, _, _, _, _, _, _, _, _, _, _, _, _, _, _, _, _, _, _, _, _, _, _, _, _, _, _, _, _, _, _, _, _, _, _, _, _, _, _, _, _, _, _, _, _, _, _, rfl, lk F0, lk F1, lk F2, lk F3, lk F4, lk F5, lk F6, lk F7, lk F8, lk F9, lk F10, lk F11, lk F12, lk F13, lk F14, fun _ => rfl, lk F16, lk F17, lk F18, fun h => F19 (ls (by decide) h), lk F20, lk F21, lk F22, lk F23, lk F24, lk F25, fun h => F26 (ls (by decide) h), lk F27, lk F28, lk F29, lk F30, lk F31, lk F32, lk F33, lk F34, lk F35, lk F36, lk F37, lk F38, lk F39, lk F40, lk F41, lk F42, lk F43, lk F44, lk F45, lk F46, lk F47, lk F48, lk F49, lk F50, lk F51, lk F52, lk F53, lk F54, F55, F56, F57, F58, F59, F60⟩
    · simp only [List.getElem?_toArray, List.getElem?_cons_zero, List.getElem?_cons_succ, Option.some.injEq] at ho
      subst ho
      obtain rfl := F15 (hd ⟨15, .data⟩ (by simp) rfl)
      refine wpOp_step rfl (fun K hK => ?_)
      go_simp
      refine hK _ _ ?_
      exact ⟨_, _, _, _, _, _, _, _, _, _, _, _, _, _, _, _, _, _, _, _, _, _, _, _, _, _, _, _, _, _, _, _, _, _, _, _, _, _, _, _, _, _, _, _, _, _, _, _, _, _, _, _, _, _, _, rfl, lk F0, lk F1, lk F2, lk F3, lk F4, lk F5, lk F6, lk F7, lk F8, lk F9, lk F10, lk F11, lk F12, lk F13, lk F14, lk F15, fun _ => rfl, lk F17, lk F18, fun h => F19 (ls (by decide) h), lk F20, lk F21, lk F22, lk F23, lk F24, lk F25, fun h => F26 (ls (by decide) h), lk F27, lk F28, lk F29, lk F30, lk F31, lk F32, lk F33, lk F34, lk F35, lk F36, lk F37, lk F38, lk F39, lk F40, lk F41, lk F42, lk F43, lk F44, lk F45, lk F46, lk F47, lk F48, lk F49, lk F50, lk F51, lk F52, lk F53, lk F54, F55, F56, F57, F58, F59, F60⟩
    · simp only [List.getElem?_toArray, List.getElem?_cons_zero, List.getElem?_cons_succ, Option.some.injEq] at ho
      subst ho
      obtain rfl := F16 (hd ⟨16, .guard⟩ (by simp) rfl)
      refine wpOp_step rfl (fun K hK => ?_)
      go_simp
      refine hK _ _ ?_
      exact ⟨_, _, _, _, _, _, _, _, _, _, _, _, _, _, _, _, _, _, _, _, _, _, _, _, _, _, _, _, _, _, _, _, _, _, _, _, _, _, _, _, _, _, _, _, _, _, _, _, _, _, _, _, _, _, _, rfl, lk F0, lk F1, lk F2, lk F3, lk F4, lk F5, lk F6, lk F7, lk F8, lk F9, lk F10, lk F11, lk F12, lk F13, lk F14, lk F15, lk F16, fun _ => rfl, lk F18, fun h => F19 (ls (by decide) h), lk F20, lk F21, lk F22, lk F23, lk F24, lk F25, fun h => F26 (ls (by decide) h), lk F27, lk F28, lk F29, lk F30, lk F31, lk F32, lk F33, lk F34, lk F35, lk F36, lk F37, lk F38, lk F39, lk F40, lk F41, lk F42, lk F43, lk F44, lk F45, lk F46, lk F47, lk F48, lk F49, lk F50, lk F51, lk F52, lk F53, lk F54, F55, F56, F57, F58, F59, F60⟩
    · simp only [List.getElem?_toArray, List.getElem?_cons_zero, List.getElem?_cons_succ, Option.some.injEq] at ho
      subst ho
      obtain rfl := F16 (hd ⟨16, .guard⟩ (by simp) rfl)
      refine wpOp_step rfl (fun K hK => ?_)
      go_simp
      refine hK _ _ ?_
      exact ⟨_, _, _, _, _, _, _, _, _, _, _, _, _, _, _, _, _, _, _, _, _, _, _, _, _, _, _, _, _, _, _, _, _, _, _, _, _, _, _, _, _, _, _, _, _, _, _, _, _, _, _, _, _, _, _, rfl, lk F0, lk F1, lk F2, lk F3, lk F4, lk F5, lk F6, lk F7, lk F8, lk F9, lk F10, lk F11, lk F12, lk F13, lk F14, lk F15, lk F16, lk F17, fun _ => rfl, fun h => F19 (ls (by decide) h), lk F20, lk F21, lk F22, lk F23, lk F24, lk F25, fun h => F26 (ls (by decide) h), lk F27, lk F28, lk F29, lk F30, lk F31, lk F32, lk F33, lk F34, lk F35, lk F36, lk F37, lk F38, lk F39, lk F40, lk F41, lk F42, lk F43, lk F44, lk F45, lk F46, lk F47, lk F48, lk F49, lk F50, lk F51, lk F52, lk F53, lk F54, F55, F56, F57, F58, F59, F60⟩
    · simp only [List.getElem?_toArray, List.getElem?_cons_zero, List.getElem?_cons_succ, Option.some.injEq] at ho
      subst ho
      obtain rfl := F17 (hd ⟨17, .data⟩ (by simp) rfl)
      obtain rfl := F18 (hd ⟨18, .data⟩ (by simp) rfl)
      obtain rfl := F16 (hd ⟨16, .guard⟩ (by simp) rfl)
      refine wpOp_step rfl (fun K hK => ?_)
      go_simp
      go_at_call 26
      refine (H1.out _ F55).mono ?_
      rintro e w' ⟨ss, rfl, ht, hb⟩
      refine hK _ _ ?_
      exact ⟨_, _, _, _, _, _, _, _, _, _, _, _, _, _, _, _, _, _, _, _, _, _, _, _, _, _, _, _, _, _, _, _, _, _, _, _, _, _, _, _, _, _, _, _, _, _, _, _, _, _, _, _, _, _, _, rfl, lk F0, lk F1, lk F2, lk F3, lk F4, lk F5, lk F6, lk F7, lk F8, lk F9, lk F10, lk F11, lk F12, lk F13, lk F14, lk F15, lk F16, lk F17, lk F18, fun _ => ht, lk F20, lk F21, lk F22, lk F23, lk F24, lk F25, fun h => TrOf.call (F26 (ls (by decide) h)) hb, lk F27, lk F28, lk F29, lk F30, lk F31, lk F32, lk F33, lk F34, lk F35, lk F36, lk F37, lk F38, lk F39, lk F40, lk F41, lk F42, lk F43, lk F44, lk F45, lk F46, lk F47, lk F48, lk F49, lk F50, lk F51, lk F52, lk F53, lk F54, bt F55 hb, cell_call F56 hb, cell_call F57 hb, cell_call F58 hb, cell_call F59 hb, cell_call F60 hb⟩
    · simp only [List.getElem?_toArray, List.getElem?_cons_zero, List.getElem?_cons_succ, Option.some.injEq] at ho
      subst ho
      obtain rfl := F16 (hd ⟨16, .guard⟩ (by simp) rfl)
      have h0 := F56; have h1 := F57; have h2 := F58; have h3 := F59; have h4 := F60
      refine wpOp_step rfl (fun K hK => ?_)
      go_simp
      refine hK _ _ ?_
      exact ⟨_, _, _, _, _, _, _, _, _, _, _, _, _, _, _, _, _, _, _, _, _, _, _, _, _, _, _, _, _, _, _, _, _, _, _, _, _, _, _, _, _, _, _, _, _, _, _, _, _, _, _, _, _, _, _, rfl, lk F0, lk F1, lk F2, lk F3, lk F4, lk F5, lk F6, lk F7, lk F8, lk F9, lk F10, lk F11, lk F12, lk F13, lk F14, lk F15, lk F16, lk F17, lk F18, fun h => F19 (ls (by decide) h), fun _ => rfl, lk F21, lk F22, lk F23, lk F24, lk F25, fun h => F26 (ls (by decide) h), lk F27, lk F28, lk F29, lk F30, lk F31, lk F32, lk F33, lk F34, lk F35, lk F36, lk F37, lk F38, lk F39, lk F40, lk F41, lk F42, lk F43, lk F44, lk F45, lk F46, lk F47, lk F48, lk F49, lk F50, lk F51, lk F52, lk F53, lk F54, F55, F56, F57, F58, F59, F60⟩
    · simp only [List.getElem?_toArray, List.getElem?_cons_zero, List.getElem?_cons_succ, Option.some.injEq] at ho
      subst ho
      obtain ⟨t8, rfl, hp8, hi8⟩ := F19 (hd ⟨19, .data⟩ (by simp) rfl)
      obtain rfl := F20 (hd ⟨20, .data⟩ (by simp) rfl)
      obtain rfl := F16 (hd ⟨16, .guard⟩ (by simp) rfl)
      refine wpOp_step rfl (fun K hK => ?_)
      go_simp
      go_at_call 27
      refine (H2.out _ F55 t8 hi8 hp8).mono ?_
      rintro e w' ⟨rfl, hb⟩
      refine hK _ _ ?_
      exact ⟨_, _, _, _, _, _, _, _, _, _, _, _, _, _, _, _, _, _, _, _, _, _, _, _, _, _, _, _, _, _, _, _, _, _, _, _, _, _, _, _, _, _, _, _, _, _, _, _, _, _, _, _, _, _, _, rfl, lk F0, lk F1, lk F2, lk F3, lk F4, lk F5, lk F6, lk F7, lk F8, lk F9, lk F10, lk F11, lk F12, lk F13, lk F14, lk F15, lk F16, lk F17, lk F18, fun h => TrOf.call (F19 (ls (by decide) h)) hb, lk F20, fun _ => rfl, lk F22, lk F23, lk F24, lk F25, fun h => TrOf.call (F26 (ls (by decide) h)) hb, lk F27, lk F28, lk F29, lk F30, lk F31, lk F32, lk F33, lk F34, lk F35, lk F36, lk F37, lk F38, lk F39, lk F40, lk F41, lk F42, lk F43, lk F44, lk F45, lk F46, lk F47, lk F48, lk F49, lk F50, lk F51, lk F52, lk F53, lk F54, bt F55 hb, cell_call F56 hb, cell_call F57 hb, cell_call F58 hb, cell_call F59 hb, cell_call F60 hb⟩
    · simp only [List.getElem?_toArray, List.getElem?_cons_zero, List.getElem?_cons_succ, Option.some.injEq] at ho
      subst ho
      obtain rfl := F16 (hd ⟨16, .data⟩ (by simp) rfl)
      obtain rfl := F21 (hd ⟨21, .data⟩ (by simp) rfl)
      refine wpOp_step rfl (fun K hK => ?_)
      go_simp
      refine hK _ _ ?_
      exact ⟨_, _, _, _, _, _, _, _, _, _, _, _, _, _, _, _, _, _, _, _, _, _, _, _, _, _, _, _, _, _, _, _, _, _, _, _, _, _, _, _, _, _, _, _, _, _, _, _, _, _, _, _, _, _, _, rfl, lk F0, lk F1, lk F2, lk F3, lk F4, lk F5, lk F6, lk F7, lk F8, lk F9, lk F10, lk F11, lk F12, lk F13, lk F14, lk F15, lk F16, lk F17, lk F18, fun h => F19 (ls (by decide) h), lk F20, lk F21, fun _ => rfl, lk F23, lk F24, lk F25, fun h => F26 (ls (by decide) h), lk F27, lk F28, lk F29, lk F30, lk F31, lk F32, lk F33, lk F34, lk F35, lk F36, lk F37, lk F38, lk F39, lk F40, lk F41, lk F42, lk F43, lk F44, lk F45, lk F46, lk F47, lk F48, lk F49, lk F50, lk F51, lk F52, lk F53, lk F54, F55, F56, F57, F58, F59, F60⟩
    · simp only [List.getElem?_toArray, List.getElem?_cons_zero, List.getElem?_cons_succ, Option.some.injEq] at ho
      subst ho
      obtain rfl := F22 (hd ⟨22, .data⟩ (by simp) rfl)
      refine wpOp_step rfl (fun K hK => ?_)
      go_simp
      refine hK _ _ ?_
      exact ⟨_, _, _, _, _, _, _, _, _, _, _, _, _, _, _, _, _, _, _, _, _, _, _, _, _, _, _, _, _, _, _, _, _, _, _, _, _, _, _, _, _, _, _, _, _, _, _, _, _, _, _, _, _, _, _, rfl, lk F0, lk F1, lk F2, lk F3, lk F4, lk F5, lk F6, lk F7, lk F8, lk F9, lk F10, lk F11, lk F12, lk F13, lk F14, lk F15, lk F16, lk F17, lk F18, fun h => F19 (ls (by decide) h), lk F20, lk F21, lk F22, fun _ => rfl, lk F24, lk F25, fun h => F26 (ls (by decide) h), lk F27, lk F28, lk F29, lk F30, lk F31, lk F32, lk F33, lk F34, lk F35, lk F36, lk F37, lk F38, lk F39, lk F40, lk F41, lk F42, lk F43, lk F44, lk F45, lk F46, lk F47, lk F48, lk F49, lk F50, lk F51, lk F52, lk F53, lk F54, F55, F56, F57, F58, F59, F60⟩
    · simp only [List.getElem?_toArray, List.getElem?_cons_zero, List.getElem?_cons_succ, Option.some.injEq] at ho
      subst ho
      obtain rfl := F23 (hd ⟨23, .guard⟩ (by simp) rfl)
      refine wpOp_step rfl (fun K hK => ?_)
      go_simp
      refine hK _ _ ?_
      exact ⟨_, _, _, _, _, _, _, _, _, _, _, _, _, _, _, _, _, _, _, _, _, _, _, _, _, _, _, _, _, _, _, _, _, _, _, _, _, _, _, _, _, _, _, _, _, _, _, _, _, _, _, _, _, _, _, rfl, lk F0, lk F1, lk F2, lk F3, lk F4, lk F5, lk F6, lk F7, lk F8, lk F9, lk F10, lk F11, lk F12, lk F13, lk F14, lk F15, lk F16, lk F17, lk F18, fun h => F19 (ls (by decide) h), lk F20, lk F21, lk F22, lk F23, fun _ => rfl, lk F25, fun h => F26 (ls (by decide) h), lk F27, lk F28, lk F29, lk F30, lk F31, lk F32, lk F33, lk F34, lk F35, lk F36, lk F37, lk F38, lk F39, lk F40, lk F41, lk F42, lk F43, lk F44, lk F45, lk F46, lk F47, lk F48, lk F49, lk F50, lk F51, lk F52, lk F53, lk F54, F55, F56, F57, F58, F59, F60⟩
    · simp only [List.getElem?_toArray, List.getElem?_cons_zero, List.getElem?_cons_succ, Option.some.injEq] at ho
      subst ho
      obtain rfl := F23 (hd ⟨23, .guard⟩ (by simp) rfl)
      refine wpOp_step rfl (fun K hK => ?_)
      go_simp
      refine hK _ _ ?_
      exact ⟨_, _, _, _, _, _, _, _, _, _, _, _, _, _, _, _, _, _, _, _, _, _, _, _, _, _, _, _, _, _, _, _, _, _, _, _, _, _, _, _, _, _, _, _, _, _, _, _, _, _, _, _, _, _, _, rfl, lk F0, lk F1, lk F2, lk F3, lk F4, lk F5, lk F6, lk F7, lk F8, lk F9, lk F10, lk F11, lk F12, lk F13, lk F14, lk F15, lk F16, lk F17, lk F18, fun h => F19 (ls (by decide) h), lk F20, lk F21, lk F22, lk F23, lk F24, fun _ => rfl, fun h => F26 (ls (by decide) h), lk F27, lk F28, lk F29, lk F30, lk F31, lk F32, lk F33, lk F34, lk F35, lk F36, lk F37, lk F38, lk F39, lk F40, lk F41, lk F42, lk F43, lk F44, lk F45, lk F46, lk F47, lk F48, lk F49, lk F50, lk F51, lk F52, lk F53, lk F54, F55, F56, F57, F58, F59, F60⟩
    · simp only [List.getElem?_toArray, List.getElem?_cons_zero, List.getElem?_cons_succ, Option.some.injEq] at ho
      subst ho
      obtain rfl := F24 (hd ⟨24, .data⟩ (by simp) rfl)
      obtain rfl := F25 (hd ⟨25, .data⟩ (by simp) rfl)
      obtain rfl := F23 (hd ⟨23, .guard⟩ (by simp) rfl)
      refine wpOp_step rfl (fun K hK => ?_)
      go_simp
      go_at_call 26
      refine (H3.out _ F55).mono ?_
      rintro e w' ⟨ss, rfl, ht, hb⟩
      refine hK _ _ ?_
      exact ⟨_, _, _, _, _, _, _, _, _, _, _, _, _, _, _, _, _, _, _, _, _, _, _, _, _, _, _, _, _, _, _, _, _, _, _, _, _, _, _, _, _, _, _, _, _, _, _, _, _, _, _, _, _, _, _, rfl, lk F0, lk F1, lk F2, lk F3, lk F4, lk F5, lk F6, lk F7, lk F8, lk F9, lk F10, lk F11, lk F12, lk F13, lk F14, lk F15, lk F16, lk F17, lk F18, fun h => TrOf.call (F19 (ls (by decide) h)) hb, lk F20, lk F21, lk F22, lk F23, lk F24, lk F25, fun _ => ht, lk F27, lk F28, lk F29, lk F30, lk F31, lk F32, lk F33, lk F34, lk F35, lk F36, lk F37, lk F38, lk F39, lk F40, lk F41, lk F42, lk F43, lk F44, lk F45, lk F46, lk F47, lk F48, lk F49, lk F50, lk F51, lk F52, lk F53, lk F54, bt F55 hb, cell_call F56 hb, cell_call F57 hb, cell_call F58 hb, cell_call F59 hb, cell_call F60 hb⟩
    · simp only [List.getElem?_toArray, List.getElem?_cons_zero, List.getElem?_cons_succ, Option.some.injEq] at ho
      subst ho
      obtain rfl := F23 (hd ⟨23, .guard⟩ (by simp) rfl)
      have h0 := F56; have h1 := F57; have h2 := F58; have h3 := F59; have h4 := F60
      refine wpOp_step rfl (fun K hK => ?_)
      go_simp
      refine hK _ _ ?_
      exact ⟨_, _, _, _, _, _, _, _, _, _, _, _, _, _, _, _, _, _, _, _, _, _, _, _, _, _, _, _, _, _, _, _, _, _, _, _, _, _, _, _, _, _, _, _, _, _, _, _, _, _, _, _, _, _, _, rfl, lk F0, lk F1, lk F2, lk F3, lk F4, lk F5, lk F6, lk F7, lk F8, lk F9, lk F10, lk F11, lk F12, lk F13, lk F14, lk F15, lk F16, lk F17, lk F18, fun h => F19 (ls (by decide) h), lk F20, lk F21, lk F22, lk F23, lk F24, lk F25, fun h => F26 (ls (by decide) h), fun _ => rfl, lk F28, lk F29, lk F30, lk F31, lk F32, lk F33, lk F34, lk F35, lk F36, lk F37, lk F38, lk F39, lk F40, lk F41, lk F42, lk F43, lk F44, lk F45, lk F46, lk F47, lk F48, lk F49, lk F50, lk F51, lk F52, lk F53, lk F54, F55, F56, F57, F58, F59, F60⟩
    · simp only [List.getElem?_toArray, List.getElem?_cons_zero, List.getElem?_cons_succ, Option.some.injEq] at ho
      subst ho
      obtain ⟨t8, rfl, hp8, hi8⟩ := F26 (hd ⟨26, .data⟩ (by simp) rfl)
      obtain rfl := F27 (hd ⟨27, .data⟩ (by simp) rfl)
      obtain rfl := F23 (hd ⟨23, .guard⟩ (by simp) rfl)
      refine wpOp_step rfl (fun K hK => ?_)
      go_simp
      go_at_call 27
      refine (H2.out _ F55 t8 hi8 hp8).mono ?_
      rintro e w' ⟨rfl, hb⟩
      refine hK _ _ ?_
      exact ⟨_, _, _, _, _, _, _, _, _, _, _, _, _, _, _, _, _, _, _, _, _, _, _, _, _, _, _, _, _, _, _, _, _, _, _, _, _, _, _, _, _, _, _, _, _, _, _, _, _, _, _, _, _, _, _, rfl, lk F0, lk F1, lk F2, lk F3, lk F4, lk F5, lk F6, lk F7, lk F8, lk F9, lk F10, lk F11, lk F12, lk F13, lk F14, lk F15, lk F16, lk F17, lk F18, fun h => TrOf.call (F19 (ls (by decide) h)) hb, lk F20, lk F21, lk F22, lk F23, lk F24, lk F25, fun h => TrOf.call (F26 (ls (by decide) h)) hb, lk F27, fun _ => rfl, lk F29, lk F30, lk F31, lk F32, lk F33, lk F34, lk F35, lk F36, lk F37, lk F38, lk F39, lk F40, lk F41, lk F42, lk F43, lk F44, lk F45, lk F46, lk F47, lk F48, lk F49, lk F50, lk F51, lk F52, lk F53, lk F54, bt F55 hb, cell_call F56 hb, cell_call F57 hb, cell_call F58 hb, cell_call F59 hb, cell_call F60 hb⟩
    · simp only [List.getElem?_toArray, List.getElem?_cons_zero, List.getElem?_cons_succ, Option.some.injEq] at ho
      subst ho
      obtain rfl := F23 (hd ⟨23, .data⟩ (by simp) rfl)
      obtain rfl := F28 (hd ⟨28, .data⟩ (by simp) rfl)
      refine wpOp_step rfl (fun K hK => ?_)
      go_simp
      refine hK _ _ ?_
      exact ⟨_, _, _, _, _, _, _, _, _, _, _, _, _, _, _, _, _, _, _, _, _, _, _, _, _, _, _, _, _, _, _, _, _, _, _, _, _, _, _, _, _, _, _, _, _, _, _, _, _, _, _, _, _, _, _, rfl, lk F0, lk F1, lk F2, lk F3, lk F4, lk F5, lk F6, lk F7, lk F8, lk F9, lk F10, lk F11, lk F12, lk F13, lk F14, lk F15, lk F16, lk F17, lk F18, fun h => F19 (ls (by decide) h), lk F20, lk F21, lk F22, lk F23, lk F24, lk F25, fun h => F26 (ls (by decide) h), lk F27, lk F28, fun _ => rfl, lk F30, lk F31, lk F32, lk F33, lk F34, lk F35, lk F36, lk F37, lk F38, lk F39, lk F40, lk F41, lk F42, lk F43, lk F44, lk F45, lk F46, lk F47, lk F48, lk F49, lk F50, lk F51, lk F52, lk F53, lk F54, F55, F56, F57, F58, F59, F60⟩
    · simp only [List.getElem?_toArray, List.getElem?_cons_zero, List.getElem?_cons_succ, Option.some.injEq] at ho
      subst ho
      obtain rfl := F29 (hd ⟨29, .data⟩ (by simp) rfl)
      refine wpOp_step rfl (fun K hK => ?_)
      go_simp
      refine hK _ _ ?_
      exact ⟨_, _, _, _, _, _, _, _, _, _, _, _, _, _, _, _, _, _, _, _, _, _, _, _, _, _, _, _, _, _, _, _, _, _, _, _, _, _, _, _, _, _, _, _, _, _, _, _, _, _, _, _, _, _, _, rfl, lk F0, lk F1, lk F2, lk F3, lk F4, lk F5, lk F6, lk F7, lk F8, lk F9, lk F10, lk F11, lk F12, lk F13, lk F14, lk F15, lk F16, lk F17, lk F18, fun h => F19 (ls (by decide) h), lk F20, lk F21, lk F22, lk F23, lk F24, lk F25, fun h => F26 (ls (by decide) h), lk F27, lk F28, lk F29, fun _ => rfl, lk F31, lk F32, lk F33, lk F34, lk F35, lk F36, lk F37, lk F38, lk F39, lk F40, lk F41, lk F42, lk F43, lk F44, lk F45, lk F46, lk F47, lk F48, lk F49, lk F50, lk F51, lk F52, lk F53, lk F54, F55, F56, F57, F58, F59, F60⟩
    · simp only [List.getElem?_toArray, List.getElem?_cons_zero, List.getElem?_cons_succ, Option.some.injEq] at ho
      subst ho
      obtain rfl := F30 (hd ⟨30, .guard⟩ (by simp) rfl)
      refine wpOp_step rfl (fun K hK => ?_)
      go_simp
      refine hK _ _ ?_
      exact ⟨_, _, _, _, _, _, _, _, _, _, _, _, _, _, _, _, _, _, _, _, _, _, _, _, _, _, _, _, _, _, _, _, _, _, _, _, _, _, _, _, _, _, _, _, _, _, _, _, _, _, _, _, _, _, _, rfl, lk F0, lk F1, lk F2, lk F3, lk F4, lk F5, lk F6, lk F7, lk F8, lk F9, lk F10, lk F11, lk F12, lk F13, lk F14, lk F15, lk F16, lk F17, lk F18, fun h => F19 (ls (by decide) h), lk F20, lk F21, lk F22, lk F23, lk F24, lk F25, fun h => F26 (ls (by decide) h), lk F27, lk F28, lk F29, lk F30, fun _ => rfl, lk F32, lk F33, lk F34, lk F35, lk F36, lk F37, lk F38, lk F39, lk F40, lk F41, lk F42, lk F43, lk F44, lk F45, lk F46, lk F47, lk F48, lk F49, lk F50, lk F51, lk F52, lk F53, lk F54, F55, F56, F57, F58, F59, F60⟩
    · simp only [List.getElem?_toArray, List.getElem?_cons_zero, List.getElem?_cons_succ, Option.some.injEq] at ho
      subst ho
      obtain rfl := F30 (hd ⟨30, .guard⟩ (by simp) rfl)
      refine wpOp_step rfl (fun K hK => ?_)
      go_simp
      refine hK _ _ ?_
      exact ⟨_, _, _, _, _, _, _, _, _, _, _, _, _, _, _, _, _, _, _, _, _, _, _, _, _, _, _, _, _, _, _, _, _, _, _, _, _, _, _, _, _, _, _, _, _, _, _, _, _, _, _, _, _, _, _, rfl, lk F0, lk F1, lk F2, lk F3, lk F4, lk F5, lk F6, lk F7, lk F8, lk F9, lk F10, lk F11, lk F12, lk F13, lk F14, lk F15, lk F16, lk F17, lk F18, fun h => F19 (ls (by decide) h), lk F20, lk F21, lk F22, lk F23, lk F24, lk F25, fun h => F26 (ls (by decide) h), lk F27, lk F28, lk F29, lk F30, lk F31, fun _ => rfl, lk F33, lk F34, lk F35, lk F36, lk F37, lk F38, lk F39, lk F40, lk F41, lk F42, lk F43, lk F44, lk F45, lk F46, lk F47, lk F48, lk F49, lk F50, lk F51, lk F52, lk F53, lk F54, F55, F56, F57, F58, F59, F60⟩
    · simp only [List.getElem?_toArray, List.getElem?_cons_zero, List.getElem?_cons_succ, Option.some.injEq] at ho
      subst ho
      obtain rfl := F31 (hd ⟨31, .data⟩ (by simp) rfl)
      obtain rfl := F32 (hd ⟨32, .data⟩ (by simp) rfl)
      obtain rfl := F30 (hd ⟨30, .guard⟩ (by simp) rfl)
      refine wpOp_step rfl (fun K hK => ?_)
      go_simp
      go_at_call 28
      refine (H4.out _ F55).mono ?_
      rintro e w' ⟨rfl, hb⟩
      refine hK _ _ ?_
      exact ⟨_, _, _, _, _, _, _, _, _, _, _, _, _, _, _, _, _, _, _, _, _, _, _, _, _, _, _, _, _, _, _, _, _, _, _, _, _, _, _, _, _, _, _, _, _, _, _, _, _, _, _, _, _, _, _, rfl, lk F0, lk F1, lk F2, lk F3, lk F4, lk F5, lk F6, lk F7, lk F8, lk F9, lk F10, lk F11, lk F12, lk F13, lk F14, lk F15, lk F16, lk F17, lk F18, fun h => TrOf.call (F19 (ls (by decide) h)) hb, lk F20, lk F21, lk F22, lk F23, lk F24, lk F25, fun h => TrOf.call (F26 (ls (by decide) h)) hb, lk F27, lk F28, lk F29, lk F30, lk F31, lk F32, fun _ => rfl, lk F34, lk F35, lk F36, lk F37, lk F38, lk F39, lk F40, lk F41, lk F42, lk F43, lk F44, lk F45, lk F46, lk F47, lk F48, lk F49, lk F50, lk F51, lk F52, lk F53, lk F54, bt F55 hb, cell_call F56 hb, cell_call F57 hb, cell_call F58 hb, cell_call F59 hb, cell_call F60 hb⟩
    · simp only [List.getElem?_toArray, List.getElem?_cons_zero, List.getElem?_cons_succ, Option.some.injEq] at ho
      subst ho
      obtain rfl := F30 (hd ⟨30, .guard⟩ (by simp) rfl)
      refine wpOp_step rfl (fun K hK => ?_)
      go_simp
      refine hK _ _ ?_
      exact ⟨_, _, _, _, _, _, _, _, _, _, _, _, _, _, _, _, _, _, _, _, _, _, _, _, _, _, _, _, _, _, _, _, _, _, _, _, _, _, _, _, _, _, _, _, _, _, _, _, _, _, _, _, _, _, _, rfl, lk F0, lk F1, lk F2, lk F3, lk F4, lk F5, lk F6, lk F7, lk F8, lk F9, lk F10, lk F11, lk F12, lk F13, lk F14, lk F15, lk F16, lk F17, lk F18, fun h => F19 (ls (by decide) h), lk F20, lk F21, lk F22, lk F23, lk F24, lk F25, fun h => F26 (ls (by decide) h), lk F27, lk F28, lk F29, lk F30, lk F31, lk F32, lk F33, fun _ => rfl, lk F35, lk F36, lk F37, lk F38, lk F39, lk F40, lk F41, lk F42, lk F43, lk F44, lk F45, lk F46, lk F47, lk F48, lk F49, lk F50, lk F51, lk F52, lk F53, lk F54, F55, F56, F57, F58, F59, F60⟩
    · simp only [List.getElem?_toArray, List.getElem?_cons_zero, List.getElem?_cons_succ, Option.some.injEq] at ho
      subst ho
      obtain rfl := F30 (hd ⟨30, .guard⟩ (by simp) rfl)
      refine wpOp_step rfl (fun K hK => ?_)
      go_simp
      refine hK _ _ ?_
      exact ⟨_, _, _, _, _, _, _, _, _, _, _, _, _, _, _, _, _, _, _, _, _, _, _, _, _, _, _, _, _, _, _, _, _, _, _, _, _, _, _, _, _, _, _, _, _, _, _, _, _, _, _, _, _, _, _, rfl, lk F0, lk F1, lk F2, lk F3, lk F4, lk F5, lk F6, lk F7, lk F8, lk F9, lk F10, lk F11, lk F12, lk F13, lk F14, lk F15, lk F16, lk F17, lk F18, fun h => F19 (ls (by decide) h), lk F20, lk F21, lk F22, lk F23, lk F24, lk F25, fun h => F26 (ls (by decide) h), lk F27, lk F28, lk F29, lk F30, lk F31, lk F32, lk F33, lk F34, fun _ => rfl, lk F36, lk F37, lk F38, lk F39, lk F40, lk F41, lk F42, lk F43, lk F44, lk F45, lk F46, lk F47, lk F48, lk F49, lk F50, lk F51, lk F52, lk F53, lk F54, F55, F56, F57, F58, F59, F60⟩
    · simp only [List.getElem?_toArray, List.getElem?_cons_zero, List.getElem?_cons_succ, Option.some.injEq] at ho
      subst ho
      obtain rfl := F34 (hd ⟨34, .data⟩ (by simp) rfl)
      obtain rfl := F35 (hd ⟨35, .data⟩ (by simp) rfl)
      obtain rfl := F30 (hd ⟨30, .guard⟩ (by simp) rfl)
      refine wpOp_step rfl (fun K hK => ?_)
      go_simp
      go_at_call 28
      refine (H5.out _ F55).mono ?_
      rintro e w' ⟨rfl, hb⟩
      refine hK _ _ ?_
      exact ⟨_, _, _, _, _, _, _, _, _, _, _, _, _, _, _, _, _, _, _, _, _, _, _, _, _, _, _, _, _, _, _, _, _, _, _, _, _, _, _, _, _, _, _, _, _, _, _, _, _, _, _, _, _, _, _, rfl, lk F0, lk F1, lk F2, lk F3, lk F4, lk F5, lk F6, lk F7, lk F8, lk F9, lk F10, lk F11, lk F12, lk F13, lk F14, lk F15, lk F16, lk F17, lk F18, fun h => TrOf.call (F19 (ls (by decide) h)) hb, lk F20, lk F21, lk F22, lk F23, lk F24, lk F25, fun h => TrOf.call (F26 (ls (by decide) h)) hb, lk F27, lk F28, lk F29, lk F30, lk F31, lk F32, lk F33, lk F34, lk F35, fun _ => rfl, lk F37, lk F38, lk F39, lk F40, lk F41, lk F42, lk F43, lk F44, lk F45, lk F46, lk F47, lk F48, lk F49, lk F50, lk F51, lk F52, lk F53, lk F54, bt F55 hb, cell_call F56 hb, cell_call F57 hb, cell_call F58 hb, cell_call F59 hb, cell_call F60 hb⟩
    · simp only [List.getElem?_toArray, List.getElem?_cons_zero, List.getElem?_cons_succ, Option.some.injEq] at ho
      subst ho
      obtain rfl := F33 (hd ⟨33, .data⟩ (by simp) rfl)
      obtain rfl := F36 (hd ⟨36, .data⟩ (by simp) rfl)
      obtain rfl := F30 (hd ⟨30, .guard⟩ (by simp) rfl)
      refine wpOp_step rfl (fun K hK => ?_)
      go_simp
      refine hK _ _ ?_
      exact ⟨_, _, _, _, _, _, _, _, _, _, _, _, _, _, _, _, _, _, _, _, _, _, _, _, _, _, _, _, _, _, _, _, _, _, _, _, _, _, _, _, _, _, _, _, _, _, _, _, _, _, _, _, _, _, _, rfl, lk F0, lk F1, lk F2, lk F3, lk F4, lk F5, lk F6, lk F7, lk F8, lk F9, lk F10, lk F11, lk F12, lk F13, lk F14, lk F15, lk F16, lk F17, lk F18, fun h => F19 (ls (by decide) h), lk F20, lk F21, lk F22, lk F23, lk F24, lk F25, fun h => F26 (ls (by decide) h), lk F27, lk F28, lk F29, lk F30, lk F31, lk F32, lk F33, lk F34, lk F35, lk F36, fun _ => rfl, lk F38, lk F39, lk F40, lk F41, lk F42, lk F43, lk F44, lk F45, lk F46, lk F47, lk F48, lk F49, lk F50, lk F51, lk F52, lk F53, lk F54, F55, F56, F57, F58, F59, F60⟩
    · simp only [List.getElem?_toArray, List.getElem?_cons_zero, List.getElem?_cons_succ, Option.some.injEq] at ho
      subst ho
      obtain rfl := F30 (hd ⟨30, .data⟩ (by simp) rfl)
      obtain rfl := F37 (hd ⟨37, .data⟩ (by simp) rfl)
      refine wpOp_step rfl (fun K hK => ?_)
      go_simp
      refine hK _ _ ?_
      exact ⟨_, _, _, _, _, _, _, _, _, _, _, _, _, _, _, _, _, _, _, _, _, _, _, _, _, _, _, _, _, _, _, _, _, _, _, _, _, _, _, _, _, _, _, _, _, _, _, _, _, _, _, _, _, _, _, rfl, lk F0, lk F1, lk F2, lk F3, lk F4, lk F5, lk F6, lk F7, lk F8, lk F9, lk F10, lk F11, lk F12, lk F13, lk F14, lk F15, lk F16, lk F17, lk F18, fun h => F19 (ls (by decide) h), lk F20, lk F21, lk F22, lk F23, lk F24, lk F25, fun h => F26 (ls (by decide) h), lk F27, lk F28, lk F29, lk F30, lk F31, lk F32, lk F33, lk F34, lk F35, lk F36, lk F37, fun _ => rfl, lk F39, lk F40, lk F41, lk F42, lk F43, lk F44, lk F45, lk F46, lk F47, lk F48, lk F49, lk F50, lk F51, lk F52, lk F53, lk F54, F55, F56, F57, F58, F59, F60⟩
    · simp only [List.getElem?_toArray, List.getElem?_cons_zero, List.getElem?_cons_succ, Option.some.injEq] at ho
      subst ho
      obtain rfl := F38 (hd ⟨38, .data⟩ (by simp) rfl)
      refine wpOp_step rfl (fun K hK => ?_)
      go_simp
      refine hK _ _ ?_
      exact ⟨_, _, _, _, _, _, _, _, _, _, _, _, _, _, _, _, _, _, _, _, _, _, _, _, _, _, _, _, _, _, _, _, _, _, _, _, _, _, _, _, _, _, _, _, _, _, _, _, _, _, _, _, _, _, _, rfl, lk F0, lk F1, lk F2, lk F3, lk F4, lk F5, lk F6, lk F7, lk F8, lk F9, lk F10, lk F11, lk F12, lk F13, lk F14, lk F15, lk F16, lk F17, lk F18, fun h => F19 (ls (by decide) h), lk F20, lk F21, lk F22, lk F23, lk F24, lk F25, fun h => F26 (ls (by decide) h), lk F27, lk F28, lk F29, lk F30, lk F31, lk F32, lk F33, lk F34, lk F35, lk F36, lk F37, lk F38, fun _ => rfl, lk F40, lk F41, lk F42, lk F43, lk F44, lk F45, lk F46, lk F47, lk F48, lk F49, lk F50, lk F51, lk F52, lk F53, lk F54, F55, F56, F57, F58, F59, F60⟩
    · simp only [List.getElem?_toArray, List.getElem?_cons_zero, List.getElem?_cons_succ, Option.some.injEq] at ho
      subst ho
      obtain rfl := F39 (hd ⟨39, .guard⟩ (by simp) rfl)
      refine wpOp_step rfl (fun K hK => ?_)
      go_simp
      refine hK _ _ ?_
      exact ⟨_, _, _, _, _, _, _, _, _, _, _, _, _, _, _, _, _, _, _, _, _, _, _, _, _, _, _, _, _, _, _, _, _, _, _, _, _, _, _, _, _, _, _, _, _, _, _, _, _, _, _, _, _, _, _, rfl, lk F0, lk F1, lk F2, lk F3, lk F4, lk F5, lk F6, lk F7, lk F8, lk F9, lk F10, lk F11, lk F12, lk F13, lk F14, lk F15, lk F16, lk F17, lk F18, fun h => F19 (ls (by decide) h), lk F20, lk F21, lk F22, lk F23, lk F24, lk F25, fun h => F26 (ls (by decide) h), lk F27, lk F28, lk F29, lk F30, lk F31, lk F32, lk F33, lk F34, lk F35, lk F36, lk F37, lk F38, lk F39, fun _ => rfl, lk F41, lk F42, lk F43, lk F44, lk F45, lk F46, lk F47, lk F48, lk F49, lk F50, lk F51, lk F52, lk F53, lk F54, F55, F56, F57, F58, F59, F60⟩
    · simp only [List.getElem?_toArray, List.getElem?_cons_zero, List.getElem?_cons_succ, Option.some.injEq] at ho
      subst ho
      obtain rfl := F39 (hd ⟨39, .guard⟩ (by simp) rfl)
      refine wpOp_step rfl (fun K hK => ?_)
      go_simp
      refine hK _ _ ?_
      exact ⟨_, _, _, _, _, _, _, _, _, _, _, _, _, _, _, _, _, _, _, _, _, _, _, _, _, _, _, _, _, _, _, _, _, _, _, _, _, _, _, _, _, _, _, _, _, _, _, _, _, _, _, _, _, _, _, rfl, lk F0, lk F1, lk F2, lk F3, lk F4, lk F5, lk F6, lk F7, lk F8, lk F9, lk F10, lk F11, lk F12, lk F13, lk F14, lk F15, lk F16, lk F17, lk F18, fun h => F19 (ls (by decide) h), lk F20, lk F21, lk F22, lk F23, lk F24, lk F25, fun h => F26 (ls (by decide) h), lk F27, lk F28, lk F29, lk F30, lk F31, lk F32, lk F33, lk F34, lk F35, lk F36, lk F37, lk F38, lk F39, lk F40, fun _ => rfl, lk F42, lk F43, lk F44, lk F45, lk F46, lk F47, lk F48, lk F49, lk F50, lk F51, lk F52, lk F53, lk F54, F55, F56, F57, F58, F59, F60⟩
    · simp only [List.getElem?_toArray, List.getElem?_cons_zero, List.getElem?_cons_succ, Option.some.injEq] at ho
      subst ho
      obtain rfl := F40 (hd ⟨40, .data⟩ (by simp) rfl)
      obtain rfl := F41 (hd ⟨41, .data⟩ (by simp) rfl)
      obtain rfl := F39 (hd ⟨39, .guard⟩ (by simp) rfl)
      refine wpOp_step rfl (fun K hK => ?_)
      go_simp
      go_at_call 29
      refine (H6.out _ F55).mono ?_
      rintro e w' ⟨rfl, hb⟩
      refine hK _ _ ?_
      exact ⟨_, _, _, _, _, _, _, _, _, _, _, _, _, _, _, _, _, _, _, _, _, _, _, _, _, _, _, _, _, _, _, _, _, _, _, _, _, _, _, _, _, _, _, _, _, _, _, _, _, _, _, _, _, _, _, rfl, lk F0, lk F1, lk F2, lk F3, lk F4, lk F5, lk F6, lk F7, lk F8, lk F9, lk F10, lk F11, lk F12, lk F13, lk F14, lk F15, lk F16, lk F17, lk F18, fun h => TrOf.call (F19 (ls (by decide) h)) hb, lk F20, lk F21, lk F22, lk F23, lk F24, lk F25, fun h => TrOf.call (F26 (ls (by decide) h)) hb, lk F27, lk F28, lk F29, lk F30, lk F31, lk F32, lk F33, lk F34, lk F35, lk F36, lk F37, lk F38, lk F39, lk F40, lk F41, fun _ => rfl, lk F43, lk F44, lk F45, lk F46, lk F47, lk F48, lk F49, lk F50, lk F51, lk F52, lk F53, lk F54, bt F55 hb, cell_call F56 hb, cell_call F57 hb, cell_call F58 hb, cell_call F59 hb, cell_call F60 hb⟩
    · simp only [List.getElem?_toArray, List.getElem?_cons_zero, List.getElem?_cons_succ, Option.some.injEq] at ho
      subst ho
      obtain rfl := F39 (hd ⟨39, .guard⟩ (by simp) rfl)
      refine wpOp_step rfl (fun K hK => ?_)
      go_simp
      refine hK _ _ ?_
      exact ⟨_, _, _, _, _, _, _, _, _, _, _, _, _, _, _, _, _, _, _, _, _, _, _, _, _, _, _, _, _, _, _, _, _, _, _, _, _, _, _, _, _, _, _, _, _, _, _, _, _, _, _, _, _, _, _, rfl, lk F0, lk F1, lk F2, lk F3, lk F4, lk F5, lk F6, lk F7, lk F8, lk F9, lk F10, lk F11, lk F12, lk F13, lk F14, lk F15, lk F16, lk F17, lk F18, fun h => F19 (ls (by decide) h), lk F20, lk F21, lk F22, lk F23, lk F24, lk F25, fun h => F26 (ls (by decide) h), lk F27, lk F28, lk F29, lk F30, lk F31, lk F32, lk F33, lk F34, lk F35, lk F36, lk F37, lk F38, lk F39, lk F40, lk F41, lk F42, fun _ => rfl, lk F44, lk F45, lk F46, lk F47, lk F48, lk F49, lk F50, lk F51, lk F52, lk F53, lk F54, F55, F56, F57, F58, F59, F60⟩
    · simp only [List.getElem?_toArray, List.getElem?_cons_zero, List.getElem?_cons_succ, Option.some.injEq] at ho
      subst ho
      obtain rfl := F42 (hd ⟨42, .data⟩ (by simp) rfl)
      obtain rfl := F43 (hd ⟨43, .data⟩ (by simp) rfl)
      obtain rfl := F39 (hd ⟨39, .guard⟩ (by simp) rfl)
      refine wpOp_step rfl (fun K hK => ?_)
      go_simp
      refine hK _ _ ?_
      exact ⟨_, _, _, _, _, _, _, _, _, _, _, _, _, _, _, _, _, _, _, _, _, _, _, _, _, _, _, _, _, _, _, _, _, _, _, _, _, _, _, _, _, _, _, _, _, _, _, _, _, _, _, _, _, _, _, rfl, lk F0, lk F1, lk F2, lk F3, lk F4, lk F5, lk F6, lk F7, lk F8, lk F9, lk F10, lk F11, lk F12, lk F13, lk F14, lk F15, lk F16, lk F17, lk F18, fun h => F19 (ls (by decide) h), lk F20, lk F21, lk F22, lk F23, lk F24, lk F25, fun h => F26 (ls (by decide) h), lk F27, lk F28, lk F29, lk F30, lk F31, lk F32, lk F33, lk F34, lk F35, lk F36, lk F37, lk F38, lk F39, lk F40, lk F41, lk F42, lk F43, fun _ => rfl, lk F45, lk F46, lk F47, lk F48, lk F49, lk F50, lk F51, lk F52, lk F53, lk F54, F55, F56, F57, F58, F59, F60⟩
    · simp only [List.getElem?_toArray, List.getElem?_cons_zero, List.getElem?_cons_succ, Option.some.injEq] at ho
      subst ho
      obtain rfl := F39 (hd ⟨39, .data⟩ (by simp) rfl)
      obtain rfl := F44 (hd ⟨44, .data⟩ (by simp) rfl)
      refine wpOp_step rfl (fun K hK => ?_)
      go_simp
      refine hK _ _ ?_
      exact ⟨_, _, _, _, _, _, _, _, _, _, _, _, _, _, _, _, _, _, _, _, _, _, _, _, _, _, _, _, _, _, _, _, _, _, _, _, _, _, _, _, _, _, _, _, _, _, _, _, _, _, _, _, _, _, _, rfl, lk F0, lk F1, lk F2, lk F3, lk F4, lk F5, lk F6, lk F7, lk F8, lk F9, lk F10, lk F11, lk F12, lk F13, lk F14, lk F15, lk F16, lk F17, lk F18, fun h => F19 (ls (by decide) h), lk F20, lk F21, lk F22, lk F23, lk F24, lk F25, fun h => F26 (ls (by decide) h), lk F27, lk F28, lk F29, lk F30, lk F31, lk F32, lk F33, lk F34, lk F35, lk F36, lk F37, lk F38, lk F39, lk F40, lk F41, lk F42, lk F43, lk F44, fun _ => rfl, lk F46, lk F47, lk F48, lk F49, lk F50, lk F51, lk F52, lk F53, lk F54, F55, F56, F57, F58, F59, F60⟩
    · simp only [List.getElem?_toArray, List.getElem?_cons_zero, List.getElem?_cons_succ, Option.some.injEq] at ho
      subst ho
      obtain rfl := F45 (hd ⟨45, .data⟩ (by simp) rfl)
      refine wpOp_step rfl (fun K hK => ?_)
      go_simp
      refine hK _ _ ?_
      exact ⟨_, _, _, _, _, _, _, _, _, _, _, _, _, _, _, _, _, _, _, _, _, _, _, _, _, _, _, _, _, _, _, _, _, _, _, _, _, _, _, _, _, _, _, _, _, _, _, _, _, _, _, _, _, _, _, rfl, lk F0, lk F1, lk F2, lk F3, lk F4, lk F5, lk F6, lk F7, lk F8, lk F9, lk F10, lk F11, lk F12, lk F13, lk F14, lk F15, lk F16, lk F17, lk F18, fun h => F19 (ls (by decide) h), lk F20, lk F21, lk F22, lk F23, lk F24, lk F25, fun h => F26 (ls (by decide) h), lk F27, lk F28, lk F29, lk F30, lk F31, lk F32, lk F33, lk F34, lk F35, lk F36, lk F37, lk F38, lk F39, lk F40, lk F41, lk F42, lk F43, lk F44, lk F45, fun _ => rfl, lk F47, lk F48, lk F49, lk F50, lk F51, lk F52, lk F53, lk F54, F55, F56, F57, F58, F59, F60⟩
    · simp only [List.getElem?_toArray, List.getElem?_cons_zero, List.getElem?_cons_succ, Option.some.injEq] at ho
      subst ho
      obtain rfl := F46 (hd ⟨46, .guard⟩ (by simp) rfl)
      refine wpOp_step rfl (fun K hK => ?_)
      go_simp
      refine hK _ _ ?_
      exact ⟨_, _, _, _, _, _, _, _, _, _, _, _, _, _, _, _, _, _, _, _, _, _, _, _, _, _, _, _, _, _, _, _, _, _, _, _, _, _, _, _, _, _, _, _, _, _, _, _, _, _, _, _, _, _, _, rfl, lk F0, lk F1, lk F2, lk F3, lk F4, lk F5, lk F6, lk F7, lk F8, lk F9, lk F10, lk F11, lk F12, lk F13, lk F14, lk F15, lk F16, lk F17, lk F18, fun h => F19 (ls (by decide) h), lk F20, lk F21, lk F22, lk F23, lk F24, lk F25, fun h => F26 (ls (by decide) h), lk F27, lk F28, lk F29, lk F30, lk F31, lk F32, lk F33, lk F34, lk F35, lk F36, lk F37, lk F38, lk F39, lk F40, lk F41, lk F42, lk F43, lk F44, lk F45, lk F46, fun _ => rfl, lk F48, lk F49, lk F50, lk F51, lk F52, lk F53, lk F54, F55, F56, F57, F58, F59, F60⟩
    · simp only [List.getElem?_toArray, List.getElem?_cons_zero, List.getElem?_cons_succ, Option.some.injEq] at ho
      subst ho
      obtain rfl := F46 (hd ⟨46, .guard⟩ (by simp) rfl)
      refine wpOp_step rfl (fun K hK => ?_)
      go_simp
      refine hK _ _ ?_
      exact ⟨_, _, _, _, _, _, _, _, _, _, _, _, _, _, _, _, _, _, _, _, _, _, _, _, _, _, _, _, _, _, _, _, _, _, _, _, _, _, _, _, _, _, _, _, _, _, _, _, _, _, _, _, _, _, _, rfl, lk F0, lk F1, lk F2, lk F3, lk F4, lk F5, lk F6, lk F7, lk F8, lk F9, lk F10, lk F11, lk F12, lk F13, lk F14, lk F15, lk F16, lk F17, lk F18, fun h => F19 (ls (by decide) h), lk F20, lk F21, lk F22, lk F23, lk F24, lk F25, fun h => F26 (ls (by decide) h), lk F27, lk F28, lk F29, lk F30, lk F31, lk F32, lk F33, lk F34, lk F35, lk F36, lk F37, lk F38, lk F39, lk F40, lk F41, lk F42, lk F43, lk F44, lk F45, lk F46, lk F47, fun _ => rfl, lk F49, lk F50, lk F51, lk F52, lk F53, lk F54, F55, F56, F57, F58, F59, F60⟩
    · simp only [List.getElem?_toArray, List.getElem?_cons_zero, List.getElem?_cons_succ, Option.some.injEq] at ho
      subst ho
      obtain rfl := F47 (hd ⟨47, .data⟩ (by simp) rfl)
      obtain rfl := F48 (hd ⟨48, .data⟩ (by simp) rfl)
      obtain rfl := F46 (hd ⟨46, .guard⟩ (by simp) rfl)
      refine wpOp_step rfl (fun K hK => ?_)
      go_simp
      go_at_call 30
      refine (H7.out _ F55).mono ?_
      rintro e w' ⟨rfl, hb⟩
      refine hK _ _ ?_
      exact ⟨_, _, _, _, _, _, _, _, _, _, _, _, _, _, _, _, _, _, _, _, _, _, _, _, _, _, _, _, _, _, _, _, _, _, _, _, _, _, _, _, _, _, _, _, _, _, _, _, _, _, _, _, _, _, _, rfl, lk F0, lk F1, lk F2, lk F3, lk F4, lk F5, lk F6, lk F7, lk F8, lk F9, lk F10, lk F11, lk F12, lk F13, lk F14, lk F15, lk F16, lk F17, lk F18, fun h => TrOf.call (F19 (ls (by decide) h)) hb, lk F20, lk F21, lk F22, lk F23, lk F24, lk F25, fun h => TrOf.call (F26 (ls (by decide) h)) hb, lk F27, lk F28, lk F29, lk F30, lk F31, lk F32, lk F33, lk F34, lk F35, lk F36, lk F37, lk F38, lk F39, lk F40, lk F41, lk F42, lk F43, lk F44, lk F45, lk F46, lk F47, lk F48, fun _ => rfl, lk F50, lk F51, lk F52, lk F53, lk F54, bt F55 hb, cell_call F56 hb, cell_call F57 hb, cell_call F58 hb, cell_call F59 hb, cell_call F60 hb⟩
    · simp only [List.getElem?_toArray, List.getElem?_cons_zero, List.getElem?_cons_succ, Option.some.injEq] at ho
      subst ho
      obtain rfl := F46 (hd ⟨46, .guard⟩ (by simp) rfl)
      refine wpOp_step rfl (fun K hK => ?_)
      go_simp
      refine hK _ _ ?_
      exact ⟨_, _, _, _, _, _, _, _, _, _, _, _, _, _, _, _, _, _, _, _, _, _, _, _, _, _, _, _, _, _, _, _, _, _, _, _, _, _, _, _, _, _, _, _, _, _, _, _, _, _, _, _, _, _, _, rfl, lk F0, lk F1, lk F2, lk F3, lk F4, lk F5, lk F6, lk F7, lk F8, lk F9, lk F10, lk F11, lk F12, lk F13, lk F14, lk F15, lk F16, lk F17, lk F18, fun h => F19 (ls (by decide) h), lk F20, lk F21, lk F22, lk F23, lk F24, lk F25, fun h => F26 (ls (by decide) h), lk F27, lk F28, lk F29, lk F30, lk F31, lk F32, lk F33, lk F34, lk F35, lk F36, lk F37, lk F38, lk F39, lk F40, lk F41, lk F42, lk F43, lk F44, lk F45, lk F46, lk F47, lk F48, lk F49, fun _ => rfl, lk F51, lk F52, lk F53, lk F54, F55, F56, F57, F58, F59, F60⟩
    · simp only [List.getElem?_toArray, List.getElem?_cons_zero, List.getElem?_cons_succ, Option.some.injEq] at ho
      subst ho
      obtain rfl := F50 (hd ⟨50, .data⟩ (by simp) rfl)
      obtain rfl := F46 (hd ⟨46, .guard⟩ (by simp) rfl)
      refine wpOp_step rfl (fun K hK => ?_)
      go_simp
      go_at_call 22
      refine (H8.out _ F55).mono ?_
      rintro e w' ⟨rfl, hb⟩
      refine hK _ _ ?_
      exact ⟨_, _, _, _, _, _, _, _, _, _, _, _, _, _, _, _, _, _, _, _, _, _, _, _, _, _, _, _, _, _, _, _, _, _, _, _, _, _, _, _, _, _, _, _, _, _, _, _, _, _, _, _, _, _, _, rfl, lk F0, lk F1, lk F2, lk F3, lk F4, lk F5, lk F6, lk F7, lk F8, lk F9, lk F10, lk F11, lk F12, lk F13, lk F14, lk F15, lk F16, lk F17, lk F18, fun h => TrOf.call (F19 (ls (by decide) h)) hb, lk F20, lk F21, lk F22, lk F23, lk F24, lk F25, fun h => TrOf.call (F26 (ls (by decide) h)) hb, lk F27, lk F28, lk F29, lk F30, lk F31, lk F32, lk F33, lk F34, lk F35, lk F36, lk F37, lk F38, lk F39, lk F40, lk F41, lk F42, lk F43, lk F44, lk F45, lk F46, lk F47, lk F48, lk F49, lk F50, fun _ => rfl, lk F52, lk F53, lk F54, bt F55 hb, cell_call F56 hb, cell_call F57 hb, cell_call F58 hb, cell_call F59 hb, cell_call F60 hb⟩
    · simp only [List.getElem?_toArray, List.getElem?_cons_zero, List.getElem?_cons_succ, Option.some.injEq] at ho
      subst ho
      obtain rfl := F49 (hd ⟨49, .data⟩ (by simp) rfl)
      obtain rfl := F51 (hd ⟨51, .data⟩ (by simp) rfl)
      obtain rfl := F46 (hd ⟨46, .guard⟩ (by simp) rfl)
      refine wpOp_step rfl (fun K hK => ?_)
      go_simp
      refine hK _ _ ?_
      exact ⟨_, _, _, _, _, _, _, _, _, _, _, _, _, _, _, _, _, _, _, _, _, _, _, _, _, _, _, _, _, _, _, _, _, _, _, _, _, _, _, _, _, _, _, _, _, _, _, _, _, _, _, _, _, _, _, rfl, lk F0, lk F1, lk F2, lk F3, lk F4, lk F5, lk F6, lk F7, lk F8, lk F9, lk F10, lk F11, lk F12, lk F13, lk F14, lk F15, lk F16, lk F17, lk F18, fun h => F19 (ls (by decide) h), lk F20, lk F21, lk F22, lk F23, lk F24, lk F25, fun h => F26 (ls (by decide) h), lk F27, lk F28, lk F29, lk F30, lk F31, lk F32, lk F33, lk F34, lk F35, lk F36, lk F37, lk F38, lk F39, lk F40, lk F41, lk F42, lk F43, lk F44, lk F45, lk F46, lk F47, lk F48, lk F49, lk F50, lk F51, fun _ => rfl, lk F53, lk F54, F55, F56, F57, F58, F59, F60⟩
    · simp only [List.getElem?_toArray, List.getElem?_cons_zero, List.getElem?_cons_succ, Option.some.injEq] at ho
      subst ho
      obtain rfl := F46 (hd ⟨46, .data⟩ (by simp) rfl)
      obtain rfl := F52 (hd ⟨52, .data⟩ (by simp) rfl)
      refine wpOp_step rfl (fun K hK => ?_)
      go_simp
      refine hK _ _ ?_
      exact ⟨_, _, _, _, _, _, _, _, _, _, _, _, _, _, _, _, _, _, _, _, _, _, _, _, _, _, _, _, _, _, _, _, _, _, _, _, _, _, _, _, _, _, _, _, _, _, _, _, _, _, _, _, _, _, _, rfl, lk F0, lk F1, lk F2, lk F3, lk F4, lk F5, lk F6, lk F7, lk F8, lk F9, lk F10, lk F11, lk F12, lk F13, lk F14, lk F15, lk F16, lk F17, lk F18, fun h => F19 (ls (by decide) h), lk F20, lk F21, lk F22, lk F23, lk F24, lk F25, fun h => F26 (ls (by decide) h), lk F27, lk F28, lk F29, lk F30, lk F31, lk F32, lk F33, lk F34, lk F35, lk F36, lk F37, lk F38, lk F39, lk F40, lk F41, lk F42, lk F43, lk F44, lk F45, lk F46, lk F47, lk F48, lk F49, lk F50, lk F51, lk F52, fun _ => rfl, lk F54, F55, F56, F57, F58, F59, F60⟩
    · simp only [List.getElem?_toArray, List.getElem?_cons_zero, List.getElem?_cons_succ, Option.some.injEq] at ho
      subst ho
      obtain rfl := F53 (hd ⟨53, .data⟩ (by simp) rfl)
      refine wpOp_step rfl (fun K hK => ?_)
      go_simp
      refine hK _ _ ?_
      exact ⟨_, _, _, _, _, _, _, _, _, _, _, _, _, _, _, _, _, _, _, _, _, _, _, _, _, _, _, _, _, _, _, _, _, _, _, _, _, _, _, _, _, _, _, _, _, _, _, _, _, _, _, _, _, _, _, rfl, lk F0, lk F1, lk F2, lk F3, lk F4, lk F5, lk F6, lk F7, lk F8, lk F9, lk F10, lk F11, lk F12, lk F13, lk F14, lk F15, lk F16, lk F17, lk F18, fun h => F19 (ls (by decide) h), lk F20, lk F21, lk F22, lk F23, lk F24, lk F25, fun h => F26 (ls (by decide) h), lk F27, lk F28, lk F29, lk F30, lk F31, lk F32, lk F33, lk F34, lk F35, lk F36, lk F37, lk F38, lk F39, lk F40, lk F41, lk F42, lk F43, lk F44, lk F45, lk F46, lk F47, lk F48, lk F49, lk F50, lk F51, lk F52, lk F53, fun _ => rfl, F55, F56, F57, F58, F59, F60⟩
  · intro listed A w hall hI
    unfold NbI at hI
    obtain ⟨s4, hI⟩ := hI
    obtain ⟨s63, hI⟩ := hI
    obtain ⟨s64, hI⟩ := hI
    obtain ⟨s65, hI⟩ := hI
    obtain ⟨s66, hI⟩ := hI
    obtain ⟨s67, hI⟩ := hI
    obtain ⟨s68, hI⟩ := hI
    obtain ⟨s69, hI⟩ := hI
    obtain ⟨s70, hI⟩ := hI
    obtain ⟨s71, hI⟩ := hI
    obtain ⟨s72, hI⟩ := hI
    obtain ⟨s73, hI⟩ := hI
    obtain ⟨s74, hI⟩ := hI
    obtain ⟨s75, hI⟩ := hI
    obtain ⟨s76, hI⟩ := hI
    obtain ⟨s77, hI⟩ := hI
    obtain ⟨s78, hI⟩ := hI
    obtain ⟨s79, hI⟩ := hI
    obtain ⟨s80, hI⟩ := hI
    obtain ⟨s81, hI⟩ := hI
    obtain ⟨s82, hI⟩ := hI
    obtain ⟨s83, hI⟩ := hI
    obtain ⟨s84, hI⟩ := hI
    obtain ⟨s85, hI⟩ := hI
    obtain ⟨s86, hI⟩ := hI
    obtain ⟨s87, hI⟩ := hI
    obtain ⟨s88, hI⟩ := hI
    obtain ⟨s89, hI⟩ := hI
    obtain ⟨s90, hI⟩ := hI
    obtain ⟨s91, hI⟩ := hI
    obtain ⟨s92, hI⟩ := hI
    obtain ⟨s93, hI⟩ := hI
    obtain ⟨s94, hI⟩ := hI
    obtain ⟨s95, hI⟩ := hI
    obtain ⟨s96, hI⟩ := hI
    obtain ⟨s97, hI⟩ := hI
    obtain ⟨s98, hI⟩ := hI
    obtain ⟨s99, hI⟩ := hI
    obtain ⟨s100, hI⟩ := hI
    obtain ⟨s101, hI⟩ := hI
    obtain ⟨s102, hI⟩ := hI
    obtain ⟨s103, hI⟩ := hI
    obtain ⟨s104, hI⟩ := hI
    obtain ⟨s105, hI⟩ := hI
    obtain ⟨s106, hI⟩ := hI
    obtain ⟨s107, hI⟩ := hI
    obtain ⟨s108, hI⟩ := hI
    obtain ⟨s109, hI⟩ := hI
    obtain ⟨s110, hI⟩ := hI
    obtain ⟨s111, hI⟩ := hI
    obtain ⟨s112, hI⟩ := hI
    obtain ⟨s113, hI⟩ := hI
    obtain ⟨s114, hI⟩ := hI
    obtain ⟨s115, hI⟩ := hI
    obtain ⟨s116, hI⟩ := hI
    obtain ⟨rfl, hI⟩ := hI
    obtain ⟨F0, hI⟩ := hI
    obtain ⟨F1, hI⟩ := hI
    obtain ⟨F2, hI⟩ := hI
    obtain ⟨F3, hI⟩ := hI
    obtain ⟨F4, hI⟩ := hI
    obtain ⟨F5, hI⟩ := hI
    obtain ⟨F6, hI⟩ := hI
    obtain ⟨F7, hI⟩ := hI
    obtain ⟨F8, hI⟩ := hI
    obtain ⟨F9, hI⟩ := hI
    obtain ⟨F10, hI⟩ := hI
    obtain ⟨F11, hI⟩ := hI
    obtain ⟨F12, hI⟩ := hI
    obtain ⟨F13, hI⟩ := hI
    obtain ⟨F14, hI⟩ := hI
    obtain ⟨F15, hI⟩ := hI
    obtain ⟨F16, hI⟩ := hI
    obtain ⟨F17, hI⟩ := hI
    obtain ⟨F18, hI⟩ := hI
    obtain ⟨F19, hI⟩ := hI
    obtain ⟨F20, hI⟩ := hI
    obtain ⟨F21, hI⟩ := hI
    obtain ⟨F22, hI⟩ := hI
    obtain ⟨F23, hI⟩ := hI
    obtain ⟨F24, hI⟩ := hI
    obtain ⟨F25, hI⟩ := hI
    obtain ⟨F26, hI⟩ := hI
    obtain ⟨F27, hI⟩ := hI
    obtain ⟨F28, hI⟩ := hI
    obtain ⟨F29, hI⟩ := hI
    obtain ⟨F30, hI⟩ := hI
    obtain ⟨F31, hI⟩ := hI
    obtain ⟨F32, hI⟩ := hI
    obtain ⟨F33, hI⟩ := hI
    obtain ⟨F34, hI⟩ := hI
    obtain ⟨F35, hI⟩ := hI
    obtain ⟨F36, hI⟩ := hI
    obtain ⟨F37, hI⟩ := hI
    obtain ⟨F38, hI⟩ := hI
    obtain ⟨F39, hI⟩ := hI
    obtain ⟨F40, hI⟩ := hI
    obtain ⟨F41, hI⟩ := hI
    obtain ⟨F42, hI⟩ := hI
    obtain ⟨F43, hI⟩ := hI
    obtain ⟨F44, hI⟩ := hI
    obtain ⟨F45, hI⟩ := hI
    obtain ⟨F46, hI⟩ := hI
    obtain ⟨F47, hI⟩ := hI
    obtain ⟨F48, hI⟩ := hI
    obtain ⟨F49, hI⟩ := hI
    obtain ⟨F50, hI⟩ := hI
    obtain ⟨F51, hI⟩ := hI
    obtain ⟨F52, hI⟩ := hI
    obtain ⟨F53, hI⟩ := hI
    obtain ⟨F54, hI⟩ := hI
    obtain ⟨F55, hI⟩ := hI
    obtain ⟨F56, hI⟩ := hI
    obtain ⟨F57, hI⟩ := hI
    obtain ⟨F58, hI⟩ := hI
    obtain ⟨F59, hI⟩ := hI
    have F60 := hI; clear hI
    obtain rfl := F0 (hall 0 (by decide))
    obtain rfl := F1 (hall 1 (by decide))
    obtain rfl := F2 (hall 2 (by decide))
    obtain rfl := F3 (hall 3 (by decide))
    obtain rfl := F4 (hall 4 (by decide))
    obtain rfl := F5 (hall 5 (by decide))
    obtain rfl := F6 (hall 6 (by decide))
    obtain rfl := F7 (hall 7 (by decide))
    obtain rfl := F8 (hall 8 (by decide))
    obtain rfl := F9 (hall 9 (by decide))
    obtain rfl := F10 (hall 10 (by decide))
    obtain rfl := F11 (hall 11 (by decide))
    obtain rfl := F12 (hall 12 (by decide))
    obtain rfl := F13 (hall 13 (by decide))
    obtain rfl := F14 (hall 14 (by decide))
    obtain rfl := F15 (hall 15 (by decide))
    obtain rfl := F16 (hall 16 (by decide))
    obtain rfl := F17 (hall 17 (by decide))
    obtain rfl := F18 (hall 18 (by decide))
    obtain rfl := F20 (hall 20 (by decide))
    obtain rfl := F21 (hall 21 (by decide))
    obtain rfl := F22 (hall 22 (by decide))
    obtain rfl := F23 (hall 23 (by decide))
    obtain rfl := F24 (hall 24 (by decide))
    obtain rfl := F25 (hall 25 (by decide))
    obtain rfl := F27 (hall 27 (by decide))
    obtain rfl := F28 (hall 28 (by decide))
    obtain rfl := F29 (hall 29 (by decide))
    obtain rfl := F30 (hall 30 (by decide))
    obtain rfl := F31 (hall 31 (by decide))
    obtain rfl := F32 (hall 32 (by decide))
    obtain rfl := F33 (hall 33 (by decide))
    obtain rfl := F34 (hall 34 (by decide))
    obtain rfl := F35 (hall 35 (by decide))
    obtain rfl := F36 (hall 36 (by decide))
    obtain rfl := F37 (hall 37 (by decide))
    obtain rfl := F38 (hall 38 (by decide))
    obtain rfl := F39 (hall 39 (by decide))
    obtain rfl := F40 (hall 40 (by decide))
    obtain rfl := F41 (hall 41 (by decide))
    obtain rfl := F42 (hall 42 (by decide))
    obtain rfl := F43 (hall 43 (by decide))
    obtain rfl := F44 (hall 44 (by decide))
    obtain rfl := F45 (hall 45 (by decide))
    obtain rfl := F46 (hall 46 (by decide))
    obtain rfl := F47 (hall 47 (by decide))
    obtain rfl := F48 (hall 48 (by decide))
    obtain rfl := F49 (hall 49 (by decide))
    obtain rfl := F50 (hall 50 (by decide))
    obtain rfl := F51 (hall 51 (by decide))
    obtain rfl := F52 (hall 52 (by decide))
    obtain rfl := F53 (hall 53 (by decide))
    obtain rfl := F54 (hall 54 (by decide))
    have P19 := F19 (hall 19 (by decide))
    have P26 := F26 (hall 26 (by decide))
    have HB := F55
    have Q0 := F56
    have Q1 := F57
    have Q2 := F58
    have Q3 := F59
    have Q4 := F60
    exact hQ _ _ _ trivial HB
end Go.Proofs.YtcmlfkoeajpliaaDoor
namespace Go.Proofs.YtcmlfkoeajpliaaDoor
open Go.RowKit Go.Lib Go.Proofs
set_option maxRecDepth 100000
set_option maxHeartbeats 8000000
theorem back_few (k : Int) (n v : List UInt8) (A K : Option Addr) (np nk ac kc : Nat) (k2 : Int) (n2 v2 : List UInt8) (A2 K2 : Option Addr) (np2 nk2 ac2 kc2 : Nat) (w : World) (HW : Hid (∀ w1 : World, Below w.heap.size w w1 → Calls Tryd.prog 12 #[] w1 fun e w' => e = .returned (.bool true) ∧ Below w1.heap.size w1 w'))
    (HF : Hid (∀ (w1 : World) (g cap : Nat), Below w.heap.size w w1 → g < w1.heap.size → w1.cell? ⟨g, 0, none⟩ = some (.int .i64 k) → w1.cell? ⟨g, 1, none⟩ = some (.string (ba' n)) → w1.cell? ⟨g, 2, none⟩ = some (.string (ba' v)) → w1.cell? ⟨g, 3, none⟩ = some (.slice A np ac) → w1.cell? ⟨g, 4, none⟩ = some (.slice K nk kc) → Calls Tryd.prog 14 #[.int .i64 2000, .slice (some ⟨g, 0, none⟩) 1 cap] w1 fun e w' => e = .returned (.bool false) ∧ Below w1.heap.size w1 w')) : Calls Tryd.prog 4 #[.agg #[.int .i64 k, .string (ba' n), .string (ba' v), .slice A np ac, .slice K nk kc], .agg #[.int .i64 k2, .string (ba' n2), .string (ba' v2), .slice A2 np2 ac2, .slice K2 nk2 kc2]] w fun e w' => e = .returned (.bool true) ∧ Below w.heap.size w w' := by
  go_enter Tryd.func4, Tryd.ntmps4
  go_wp2_with fail
  refine (HW.out _ (by repeat (with_reducible (first | exact Below.refl _ _ | assumption | apply ba | apply bd | apply bdr | (refine bs ?_ (by first | assumption | (simp; done) | (simp; omega))) | (refine bt ?_ (by assumption)))))).mono ?_
  rintro e w1 ⟨rfl, hb1⟩
  have b1 : Blk w1 w.heap.size 33 #[.int .i64 k, .string (ba' n), .string (ba' v), .slice A np ac, .slice K nk kc] := Blk.below ((Blk.new w 33 _).alloc _) hb1 (by first | assumption | (simp; done) | (simp; omega) | omega)
  have m1 : Blk w1 (w.heap.size + 1) 33 #[.int .i64 k2, .string (ba' n2), .string (ba' v2), .slice A2 np2 ac2, .slice K2 nk2 kc2] := by
    have := Blk.below (Blk.new (w.alloc (.cells #[.int .i64 k, .string (ba' n), .string (ba' v), .slice A np ac, .slice K nk kc] 33)) 33 #[.int .i64 k2, .string (ba' n2), .string (ba' v2), .slice A2 np2 ac2, .slice K2 nk2 kc2]) hb1 (by simp)
    have e1 : (w.alloc (Obj.cells #[.int .i64 k, .string (ba' n), .string (ba' v), .slice A np ac, .slice K nk kc] 33)).heap.size = w.heap.size + 1 := by simp
    rw [e1] at this
    exact this
  have B1 : Below w.heap.size w w1 := (by repeat (with_reducible (first | exact Below.refl _ _ | assumption | apply ba | apply bd | apply bdr | (refine bs ?_ (by first | assumption | (simp; done) | (simp; omega))) | (refine bt ?_ (by assumption)))))
  have z1 : w.heap.size + 1 < w1.heap.size := m1.lt
  have BB := Lib.hid b1; have BM := Lib.hid m1
  clear hb1 b1 m1
  have h0 := BB.out.cell 0
  have h1 := BB.out.cell 1
  have h2 := BB.out.cell 2
  have h3 := BB.out.cell 3
  have h4 := BB.out.cell 4
  simp only [List.getElem?_toArray, List.getElem?_cons_zero, List.getElem?_cons_succ] at h0 h1 h2 h3 h4
  go_wp2_with fail
  refine (HF.out _ _ _ (by repeat (with_reducible (first | exact Below.refl _ _ | assumption | apply ba | apply bd | apply bdr | (refine bs ?_ (by first | assumption | (simp; done) | (simp; omega))) | (refine bt ?_ (by assumption))))) (by simp) (by first | (simp; done) | (simp [*]; done)) (by first | (simp; done) | (simp [*]; done)) (by first | (simp; done) | (simp [*]; done)) (by first | (simp; done) | (simp [*]; done)) (by first | (simp; done) | (simp [*]; done))).mono ?_
  rintro e w2 ⟨rfl, hb2⟩
  clear h0 h1 h2 h3 h4
  have b2 : Blk w2 w.heap.size 33 #[.int .i64 k, .string (ba' n), .string (ba' v), .slice A np ac, .slice K nk kc] := by first | exact BB.out.below hb2 (by first | assumption | (simp; done) | (simp; omega) | omega) | exact (BB.out.alloc _).below hb2 (by first | assumption | (simp; done) | (simp; omega) | omega)
  have m2 : Blk w2 (w.heap.size + 1) 33 #[.int .i64 k2, .string (ba' n2), .string (ba' v2), .slice A2 np2 ac2, .slice K2 nk2 kc2] := by first | exact BM.out.below hb2 (by first | assumption | (simp; done) | (simp; omega) | omega) | exact (BM.out.alloc _).below hb2 (by first | assumption | (simp; done) | (simp; omega) | omega)
  clear BB BM
  have B2 : Below w.heap.size w w2 := (by repeat (with_reducible (first | exact Below.refl _ _ | assumption | apply ba | apply bd | apply bdr | (refine bs ?_ (by first | assumption | (simp; done) | (simp; omega))) | (refine bt ?_ (by assumption)))))
  have z2 : w.heap.size + 1 < w2.heap.size := m2.lt
  have BB := Lib.hid b2; have BM := Lib.hid m2
  clear hb2 b2 m2
  go_wp2_with fail
  refine (HW.out _ (by repeat (with_reducible (first | exact Below.refl _ _ | assumption | apply ba | apply bd | apply bdr | (refine bs ?_ (by first | assumption | (simp; done) | (simp; omega))) | (refine bt ?_ (by assumption)))))).mono ?_
  rintro e w9 ⟨rfl, hb9⟩
  go_wp2
  go_ret
  exact ⟨rfl, (by repeat (with_reducible (first | exact Below.refl _ _ | assumption | apply ba | apply bd | apply bdr | (refine bs ?_ (by first | assumption | (simp; done) | (simp; omega))) | (refine bt ?_ (by assumption)))))⟩
theorem back_few2 (k : Int) (n v : List UInt8) (A K : Option Addr) (np nk ac kc : Nat) (k2 : Int) (n2 v2 : List UInt8) (A2 K2 : Option Addr) (np2 nk2 ac2 kc2 : Nat) (w : World) (HW : Hid (∀ w1 : World, Below w.heap.size w w1 → Calls Tryd.prog 12 #[] w1 fun e w' => e = .returned (.bool true) ∧ Below w1.heap.size w1 w'))
    (HF : Hid (∀ (w1 : World) (g cap : Nat), Below w.heap.size w w1 → g < w1.heap.size → w1.cell? ⟨g, 0, none⟩ = some (.int .i64 k) → w1.cell? ⟨g, 1, none⟩ = some (.string (ba' n)) → w1.cell? ⟨g, 2, none⟩ = some (.string (ba' v)) → w1.cell? ⟨g, 3, none⟩ = some (.slice A np ac) → w1.cell? ⟨g, 4, none⟩ = some (.slice K nk kc) → Calls Tryd.prog 14 #[.int .i64 2000, .slice (some ⟨g, 0, none⟩) 1 cap] w1 fun e w' => e = .returned (.bool true) ∧ Below w1.heap.size w1 w'))
    (HM : Hid (∀ (w1 : World) (g cap : Nat), Below w.heap.size w w1 → g < w1.heap.size → w1.cell? ⟨g, 0, none⟩ = some (.int .i64 k2) → w1.cell? ⟨g, 1, none⟩ = some (.string (ba' n2)) → w1.cell? ⟨g, 2, none⟩ = some (.string (ba' v2)) → w1.cell? ⟨g, 3, none⟩ = some (.slice A2 np2 ac2) → w1.cell? ⟨g, 4, none⟩ = some (.slice K2 nk2 kc2) → Calls Tryd.prog 14 #[.int .i64 2000, .slice (some ⟨g, 0, none⟩) 1 cap] w1 fun e w' => e = .returned (.bool false) ∧ Below w1.heap.size w1 w')) : Calls Tryd.prog 4 #[.agg #[.int .i64 k, .string (ba' n), .string (ba' v), .slice A np ac, .slice K nk kc], .agg #[.int .i64 k2, .string (ba' n2), .string (ba' v2), .slice A2 np2 ac2, .slice K2 nk2 kc2]] w fun e w' => e = .returned (.bool true) ∧ Below w.heap.size w w' := by
  go_enter Tryd.func4, Tryd.ntmps4
  go_wp2_with fail
  refine (HW.out _ (by repeat (with_reducible (first | exact Below.refl _ _ | assumption | apply ba | apply bd | apply bdr | (refine bs ?_ (by first | assumption | (simp; done) | (simp; omega))) | (refine bt ?_ (by assumption)))))).mono ?_
  rintro e w1 ⟨rfl, hb1⟩
  have b1 : Blk w1 w.heap.size 33 #[.int .i64 k, .string (ba' n), .string (ba' v), .slice A np ac, .slice K nk kc] := Blk.below ((Blk.new w 33 _).alloc _) hb1 (by first | assumption | (simp; done) | (simp; omega) | omega)
  have m1 : Blk w1 (w.heap.size + 1) 33 #[.int .i64 k2, .string (ba' n2), .string (ba' v2), .slice A2 np2 ac2, .slice K2 nk2 kc2] := by
    have := Blk.below (Blk.new (w.alloc (.cells #[.int .i64 k, .string (ba' n), .string (ba' v), .slice A np ac, .slice K nk kc] 33)) 33 #[.int .i64 k2, .string (ba' n2), .string (ba' v2), .slice A2 np2 ac2, .slice K2 nk2 kc2]) hb1 (by simp)
    have e1 : (w.alloc (Obj.cells #[.int .i64 k, .string (ba' n), .string (ba' v), .slice A np ac, .slice K nk kc] 33)).heap.size = w.heap.size + 1 := by simp
    rw [e1] at this
    exact this
  have B1 : Below w.heap.size w w1 := (by repeat (with_reducible (first | exact Below.refl _ _ | assumption | apply ba | apply bd | apply bdr | (refine bs ?_ (by first | assumption | (simp; done) | (simp; omega))) | (refine bt ?_ (by assumption)))))
  have z1 : w.heap.size + 1 < w1.heap.size := m1.lt
  have BB := Lib.hid b1; have BM := Lib.hid m1
  clear hb1 b1 m1
  have h0 := BB.out.cell 0
  have h1 := BB.out.cell 1
  have h2 := BB.out.cell 2
  have h3 := BB.out.cell 3
  have h4 := BB.out.cell 4
  simp only [List.getElem?_toArray, List.getElem?_cons_zero, List.getElem?_cons_succ] at h0 h1 h2 h3 h4
  go_wp2_with fail
  refine (HF.out _ _ _ (by repeat (with_reducible (first | exact Below.refl _ _ | assumption | apply ba | apply bd | apply bdr | (refine bs ?_ (by first | assumption | (simp; done) | (simp; omega))) | (refine bt ?_ (by assumption))))) (by simp) (by first | (simp; done) | (simp [*]; done)) (by first | (simp; done) | (simp [*]; done)) (by first | (simp; done) | (simp [*]; done)) (by first | (simp; done) | (simp [*]; done)) (by first | (simp; done) | (simp [*]; done))).mono ?_
  rintro e w2 ⟨rfl, hb2⟩
  clear h0 h1 h2 h3 h4
  have b2 : Blk w2 w.heap.size 33 #[.int .i64 k, .string (ba' n), .string (ba' v), .slice A np ac, .slice K nk kc] := by first | exact BB.out.below hb2 (by first | assumption | (simp; done) | (simp; omega) | omega) | exact (BB.out.alloc _).below hb2 (by first | assumption | (simp; done) | (simp; omega) | omega)
  have m2 : Blk w2 (w.heap.size + 1) 33 #[.int .i64 k2, .string (ba' n2), .string (ba' v2), .slice A2 np2 ac2, .slice K2 nk2 kc2] := by first | exact BM.out.below hb2 (by first | assumption | (simp; done) | (simp; omega) | omega) | exact (BM.out.alloc _).below hb2 (by first | assumption | (simp; done) | (simp; omega) | omega)
  clear BB BM
  have B2 : Below w.heap.size w w2 := (by repeat (with_reducible (first | exact Below.refl _ _ | assumption | apply ba | apply bd | apply bdr | (refine bs ?_ (by first | assumption | (simp; done) | (simp; omega))) | (refine bt ?_ (by assumption)))))
  have z2 : w.heap.size + 1 < w2.heap.size := m2.lt
  have BB := Lib.hid b2; have BM := Lib.hid m2
  clear hb2 b2 m2
  have h0 := BM.out.cell 0
  have h1 := BM.out.cell 1
  have h2 := BM.out.cell 2
  have h3 := BM.out.cell 3
  have h4 := BM.out.cell 4
  simp only [List.getElem?_toArray, List.getElem?_cons_zero, List.getElem?_cons_succ] at h0 h1 h2 h3 h4
  go_wp2_with fail
  refine (HM.out _ _ _ (by repeat (with_reducible (first | exact Below.refl _ _ | assumption | apply ba | apply bd | apply bdr | (refine bs ?_ (by first | assumption | (simp; done) | (simp; omega))) | (refine bt ?_ (by assumption))))) (by simp) (by first | (simp; done) | (simp [*]; done)) (by first | (simp; done) | (simp [*]; done)) (by first | (simp; done) | (simp [*]; done)) (by first | (simp; done) | (simp [*]; done)) (by first | (simp; done) | (simp [*]; done))).mono ?_
  rintro e w3 ⟨rfl, hb3⟩
  clear h0 h1 h2 h3 h4
  have b3 : Blk w3 w.heap.size 33 #[.int .i64 k, .string (ba' n), .string (ba' v), .slice A np ac, .slice K nk kc] := by first | exact BB.out.below hb3 (by first | assumption | (simp; done) | (simp; omega) | omega) | exact (BB.out.alloc _).below hb3 (by first | assumption | (simp; done) | (simp; omega) | omega)
  have m3 : Blk w3 (w.heap.size + 1) 33 #[.int .i64 k2, .string (ba' n2), .string (ba' v2), .slice A2 np2 ac2, .slice K2 nk2 kc2] := by first | exact BM.out.below hb3 (by first | assumption | (simp; done) | (simp; omega) | omega) | exact (BM.out.alloc _).below hb3 (by first | assumption | (simp; done) | (simp; omega) | omega)
  clear BB BM
  have B3 : Below w.heap.size w w3 := (by repeat (with_reducible (first | exact Below.refl _ _ | assumption | apply ba | apply bd | apply bdr | (refine bs ?_ (by first | assumption | (simp; done) | (simp; omega))) | (refine bt ?_ (by assumption)))))
  have z3 : w.heap.size + 1 < w3.heap.size := m3.lt
  have BB := Lib.hid b3; have BM := Lib.hid m3
  clear hb3 b3 m3
  go_wp2_with fail
  refine (HW.out _ (by repeat (with_reducible (first | exact Below.refl _ _ | assumption | apply ba | apply bd | apply bdr | (refine bs ?_ (by first | assumption | (simp; done) | (simp; omega))) | (refine bt ?_ (by assumption)))))).mono ?_
  rintro e w9 ⟨rfl, hb9⟩
  go_wp2
  go_ret
  exact ⟨rfl, (by repeat (with_reducible (first | exact Below.refl _ _ | assumption | apply ba | apply bd | apply bdr | (refine bs ?_ (by first | assumption | (simp; done) | (simp; omega))) | (refine bt ?_ (by assumption)))))⟩
theorem back_right (k : Int) (n v : List UInt8) (A K : Option Addr) (np nk ac kc : Nat) (k2 : Int) (n2 v2 : List UInt8) (A2 K2 : Option Addr) (np2 nk2 ac2 kc2 : Nat) (w : World) (HW : Hid (∀ w1 : World, Below w.heap.size w w1 → Calls Tryd.prog 12 #[] w1 fun e w' => e = .returned (.bool true) ∧ Below w1.heap.size w1 w'))
    (HF : Hid (∀ (w1 : World) (g cap : Nat), Below w.heap.size w w1 → g < w1.heap.size → w1.cell? ⟨g, 0, none⟩ = some (.int .i64 k) → w1.cell? ⟨g, 1, none⟩ = some (.string (ba' n)) → w1.cell? ⟨g, 2, none⟩ = some (.string (ba' v)) → w1.cell? ⟨g, 3, none⟩ = some (.slice A np ac) → w1.cell? ⟨g, 4, none⟩ = some (.slice K nk kc) → Calls Tryd.prog 14 #[.int .i64 2000, .slice (some ⟨g, 0, none⟩) 1 cap] w1 fun e w' => e = .returned (.bool true) ∧ Below w1.heap.size w1 w'))
    (HM : Hid (∀ (w1 : World) (g cap : Nat), Below w.heap.size w w1 → g < w1.heap.size → w1.cell? ⟨g, 0, none⟩ = some (.int .i64 k2) → w1.cell? ⟨g, 1, none⟩ = some (.string (ba' n2)) → w1.cell? ⟨g, 2, none⟩ = some (.string (ba' v2)) → w1.cell? ⟨g, 3, none⟩ = some (.slice A2 np2 ac2) → w1.cell? ⟨g, 4, none⟩ = some (.slice K2 nk2 kc2) → Calls Tryd.prog 14 #[.int .i64 2000, .slice (some ⟨g, 0, none⟩) 1 cap] w1 fun e w' => e = .returned (.bool true) ∧ Below w1.heap.size w1 w'))
    (HR : Hid (∀ w1 : World, Below w.heap.size w w1 → Calls Tryd.prog 15 #[.agg #[.int .i64 k, .string (ba' n), .string (ba' v), .slice A np ac, .slice K nk kc], .int .i64 0] w1 fun e w' => e = .returned (.bool false) ∧ Below w1.heap.size w1 w')) : Calls Tryd.prog 4 #[.agg #[.int .i64 k, .string (ba' n), .string (ba' v), .slice A np ac, .slice K nk kc], .agg #[.int .i64 k2, .string (ba' n2), .string (ba' v2), .slice A2 np2 ac2, .slice K2 nk2 kc2]] w fun e w' => e = .returned (.bool true) ∧ Below w.heap.size w w' := by
  go_enter Tryd.func4, Tryd.ntmps4
  go_wp2_with fail
  refine (HW.out _ (by repeat (with_reducible (first | exact Below.refl _ _ | assumption | apply ba | apply bd | apply bdr | (refine bs ?_ (by first | assumption | (simp; done) | (simp; omega))) | (refine bt ?_ (by assumption)))))).mono ?_
  rintro e w1 ⟨rfl, hb1⟩
  have b1 : Blk w1 w.heap.size 33 #[.int .i64 k, .string (ba' n), .string (ba' v), .slice A np ac, .slice K nk kc] := Blk.below ((Blk.new w 33 _).alloc _) hb1 (by first | assumption | (simp; done) | (simp; omega) | omega)
  have m1 : Blk w1 (w.heap.size + 1) 33 #[.int .i64 k2, .string (ba' n2), .string (ba' v2), .slice A2 np2 ac2, .slice K2 nk2 kc2] := by
    have := Blk.below (Blk.new (w.alloc (.cells #[.int .i64 k, .string (ba' n), .string (ba' v), .slice A np ac, .slice K nk kc] 33)) 33 #[.int .i64 k2, .string (ba' n2), .string (ba' v2), .slice A2 np2 ac2, .slice K2 nk2 kc2]) hb1 (by simp)
    have e1 : (w.alloc (Obj.cells #[.int .i64 k, .string (ba' n), .string (ba' v), .slice A np ac, .slice K nk kc] 33)).heap.size = w.heap.size + 1 := by simp
    rw [e1] at this
    exact this
  have B1 : Below w.heap.size w w1 := (by repeat (with_reducible (first | exact Below.refl _ _ | assumption | apply ba | apply bd | apply bdr | (refine bs ?_ (by first | assumption | (simp; done) | (simp; omega))) | (refine bt ?_ (by assumption)))))
  have z1 : w.heap.size + 1 < w1.heap.size := m1.lt
  have BB := Lib.hid b1; have BM := Lib.hid m1
  clear hb1 b1 m1
  have h0 := BB.out.cell 0
  have h1 := BB.out.cell 1
  have h2 := BB.out.cell 2
  have h3 := BB.out.cell 3
  have h4 := BB.out.cell 4
  simp only [List.getElem?_toArray, List.getElem?_cons_zero, List.getElem?_cons_succ] at h0 h1 h2 h3 h4
  go_wp2_with fail
  refine (HF.out _ _ _ (by repeat (with_reducible (first | exact Below.refl _ _ | assumption | apply ba | apply bd | apply bdr | (refine bs ?_ (by first | assumption | (simp; done) | (simp; omega))) | (refine bt ?_ (by assumption))))) (by simp) (by first | (simp; done) | (simp [*]; done)) (by first | (simp; done) | (simp [*]; done)) (by first | (simp; done) | (simp [*]; done)) (by first | (simp; done) | (simp [*]; done)) (by first | (simp; done) | (simp [*]; done))).mono ?_
  rintro e w2 ⟨rfl, hb2⟩
  clear h0 h1 h2 h3 h4
  have b2 : Blk w2 w.heap.size 33 #[.int .i64 k, .string (ba' n), .string (ba' v), .slice A np ac, .slice K nk kc] := by first | exact BB.out.below hb2 (by first | assumption | (simp; done) | (simp; omega) | omega) | exact (BB.out.alloc _).below hb2 (by first | assumption | (simp; done) | (simp; omega) | omega)
  have m2 : Blk w2 (w.heap.size + 1) 33 #[.int .i64 k2, .string (ba' n2), .string (ba' v2), .slice A2 np2 ac2, .slice K2 nk2 kc2] := by first | exact BM.out.below hb2 (by first | assumption | (simp; done) | (simp; omega) | omega) | exact (BM.out.alloc _).below hb2 (by first | assumption | (simp; done) | (simp; omega) | omega)
  clear BB BM
  have B2 : Below w.heap.size w w2 := (by repeat (with_reducible (first | exact Below.refl _ _ | assumption | apply ba | apply bd | apply bdr | (refine bs ?_ (by first | assumption | (simp; done) | (simp; omega))) | (refine bt ?_ (by assumption)))))
  have z2 : w.heap.size + 1 < w2.heap.size := m2.lt
  have BB := Lib.hid b2; have BM := Lib.hid m2
  clear hb2 b2 m2
  have h0 := BM.out.cell 0
  have h1 := BM.out.cell 1
  have h2 := BM.out.cell 2
  have h3 := BM.out.cell 3
  have h4 := BM.out.cell 4
  simp only [List.getElem?_toArray, List.getElem?_cons_zero, List.getElem?_cons_succ] at h0 h1 h2 h3 h4
  go_wp2_with fail
  refine (HM.out _ _ _ (by repeat (with_reducible (first | exact Below.refl _ _ | assumption | apply ba | apply bd | apply bdr | (refine bs ?_ (by first | assumption | (simp; done) | (simp; omega))) | (refine bt ?_ (by assumption))))) (by simp) (by first | (simp; done) | (simp [*]; done)) (by first | (simp; done) | (simp [*]; done)) (by first | (simp; done) | (simp [*]; done)) (by first | (simp; done) | (simp [*]; done)) (by first | (simp; done) | (simp [*]; done))).mono ?_
  rintro e w3 ⟨rfl, hb3⟩
  clear h0 h1 h2 h3 h4
  have b3 : Blk w3 w.heap.size 33 #[.int .i64 k, .string (ba' n), .string (ba' v), .slice A np ac, .slice K nk kc] := by first | exact BB.out.below hb3 (by first | assumption | (simp; done) | (simp; omega) | omega) | exact (BB.out.alloc _).below hb3 (by first | assumption | (simp; done) | (simp; omega) | omega)
  have m3 : Blk w3 (w.heap.size + 1) 33 #[.int .i64 k2, .string (ba' n2), .string (ba' v2), .slice A2 np2 ac2, .slice K2 nk2 kc2] := by first | exact BM.out.below hb3 (by first | assumption | (simp; done) | (simp; omega) | omega) | exact (BM.out.alloc _).below hb3 (by first | assumption | (simp; done) | (simp; omega) | omega)
  clear BB BM
  have B3 : Below w.heap.size w w3 := (by repeat (with_reducible (first | exact Below.refl _ _ | assumption | apply ba | apply bd | apply bdr | (refine bs ?_ (by first | assumption | (simp; done) | (simp; omega))) | (refine bt ?_ (by assumption)))))
  have z3 : w.heap.size + 1 < w3.heap.size := m3.lt
  have BB := Lib.hid b3; have BM := Lib.hid m3
  clear hb3 b3 m3
  have h0 := BB.out.cell 0
  have h1 := BB.out.cell 1
  have h2 := BB.out.cell 2
  have h3 := BB.out.cell 3
  have h4 := BB.out.cell 4
  simp only [List.getElem?_toArray, List.getElem?_cons_zero, List.getElem?_cons_succ] at h0 h1 h2 h3 h4
  go_wp2_with fail
  refine (HR.out _ (by repeat (with_reducible (first | exact Below.refl _ _ | assumption | apply ba | apply bd | apply bdr | (refine bs ?_ (by first | assumption | (simp; done) | (simp; omega))) | (refine bt ?_ (by assumption)))))).mono ?_
  rintro e w4 ⟨rfl, hb4⟩
  clear h0 h1 h2 h3 h4
  have b4 : Blk w4 w.heap.size 33 #[.int .i64 k, .string (ba' n), .string (ba' v), .slice A np ac, .slice K nk kc] := by first | exact BB.out.below hb4 (by first | assumption | (simp; done) | (simp; omega) | omega) | exact (BB.out.alloc _).below hb4 (by first | assumption | (simp; done) | (simp; omega) | omega)
  have m4 : Blk w4 (w.heap.size + 1) 33 #[.int .i64 k2, .string (ba' n2), .string (ba' v2), .slice A2 np2 ac2, .slice K2 nk2 kc2] := by first | exact BM.out.below hb4 (by first | assumption | (simp; done) | (simp; omega) | omega) | exact (BM.out.alloc _).below hb4 (by first | assumption | (simp; done) | (simp; omega) | omega)
  clear BB BM
  have B4 : Below w.heap.size w w4 := (by repeat (with_reducible (first | exact Below.refl _ _ | assumption | apply ba | apply bd | apply bdr | (refine bs ?_ (by first | assumption | (simp; done) | (simp; omega))) | (refine bt ?_ (by assumption)))))
  have z4 : w.heap.size + 1 < w4.heap.size := m4.lt
  have BB := Lib.hid b4; have BM := Lib.hid m4
  clear hb4 b4 m4
  go_wp2_with fail
  refine (HW.out _ (by repeat (with_reducible (first | exact Below.refl _ _ | assumption | apply ba | apply bd | apply bdr | (refine bs ?_ (by first | assumption | (simp; done) | (simp; omega))) | (refine bt ?_ (by assumption)))))).mono ?_
  rintro e w9 ⟨rfl, hb9⟩
  go_wp2
  go_ret
  exact ⟨rfl, (by repeat (with_reducible (first | exact Below.refl _ _ | assumption | apply ba | apply bd | apply bdr | (refine bs ?_ (by first | assumption | (simp; done) | (simp; omega))) | (refine bt ?_ (by assumption)))))⟩
theorem new_l (lim : Nat) (h1 : 1 ≤ lim) (h2 : lim ≤ 1048576) (w1 : World) : Calls Tryd.prog 13 #[.int .i64 (lim : Int)] w1 fun e w' => e = .returned (.tuple #[.pointer (some ⟨w1.heap.size, 0, none⟩), .int .i64 0]) ∧ StoreAt w' w1.heap.size lim none 0 [] ∧ Below w1.heap.size w1 w' ∧ w'.heap.size = w1.heap.size + 1 :=
  (new_any lim w1 h1 h2).mono fun e w' ⟨h1, h2⟩ => by subst h2; exact ⟨h1, new_store lim w1, ba (Below.refl _ _), by simp⟩
theorem build_more (t : Tr) (P : Nat → Prop) (w : World) (sb lim : Nat) (A : Option Addr) (c : Nat) (L : List En) (hT : tabs w) (hS : StoreAt w sb lim A c L) (hin : t.In P w) (hP : Apart P sb A w) (hb : t.pl.fit) (hl : lim ≤ 1048576) (hL : L.length ≤ lim) (hN : Nest 0 0 L) :
    Calls Tryd.prog 18 #[.pointer (some ⟨sb, 0, none⟩), t.v] w fun e w' => (∃ n z : Int, e = .returned (.tuple #[.int .i64 n, .int .i64 z])) ∧ ∃ A' c' N, StoreAt w' sb lim A' c' (L ++ N) ∧ Beside sb A w A' w' ∧ Nest 0 0 (L ++ N) ∧ N.length ≤ t.pl.size := by
  cases hr : t.pl.right 0 with
  | false =>
    refine (build_wrong t P w sb lim A c L hT hS hin hP hb hl hL hr).mono ?_
    rintro e w' ⟨rfl, h⟩
    exact ⟨⟨_, _, rfl⟩, A, c, [], by rw [List.append_nil]; exact hS.below h, Beside.of_below h, by rw [List.append_nil]; exact hN, Nat.zero_le _⟩
  | true =>
    by_cases hf : lim < L.length + t.pl.size
    · refine (build_nodes t P w sb lim A c L hT hS hin hP hb hl hL hr hf).mono ?_
      rintro e w' ⟨rfl, h⟩
      exact ⟨⟨_, _, rfl⟩, A, c, [], by rw [List.append_nil]; exact hS.below h, Beside.of_below h, by rw [List.append_nil]; exact hN, Nat.zero_le _⟩
    · refine (build_ok t P w sb lim A c L hT hS hin hP hb hl hL hr (by omega)).mono ?_
      rintro e w' ⟨rfl, A', c', h, k⟩
      exact ⟨⟨_, _, rfl⟩, A', c', _, h, k, nest_more hN hr, by rw [lay_len]; exact Nat.le_refl _⟩
end Go.Proofs.YtcmlfkoeajpliaaDoor
namespace Go.Proofs.YtcmlfkoeajpliaaDoor
open Go.RowKit Go.Lib Go.Proofs
set_option maxRecDepth 100000
set_option maxHeartbeats 8000000
theorem back_yes (k : Int) (n v : List UInt8) (A K : Option Addr) (np nk ac kc : Nat) (k2 : Int) (n2 v2 : List UInt8) (A2 K2 : Option Addr) (np2 nk2 ac2 kc2 : Nat) (w : World) (T M : PT) (hT : tabs w) (hr : T.right 0 = true) (hbk : T.bulk ≤ 1048576) (hbm : M.bulk ≤ 1048576) (hs : T.size ≤ 2000) (hsm : M.size ≤ 2000) (HW : Hid (∀ w1 : World, Below w.heap.size w w1 → Calls Tryd.prog 12 #[] w1 fun e w' => e = .returned (.bool true) ∧ Below w1.heap.size w1 w'))
    (HF : Hid (∀ (w1 : World) (g cap : Nat), Below w.heap.size w w1 → g < w1.heap.size → w1.cell? ⟨g, 0, none⟩ = some (.int .i64 k) → w1.cell? ⟨g, 1, none⟩ = some (.string (ba' n)) → w1.cell? ⟨g, 2, none⟩ = some (.string (ba' v)) → w1.cell? ⟨g, 3, none⟩ = some (.slice A np ac) → w1.cell? ⟨g, 4, none⟩ = some (.slice K nk kc) → Calls Tryd.prog 14 #[.int .i64 2000, .slice (some ⟨g, 0, none⟩) 1 cap] w1 fun e w' => e = .returned (.bool true) ∧ Below w1.heap.size w1 w'))
    (HM : Hid (∀ (w1 : World) (g cap : Nat), Below w.heap.size w w1 → g < w1.heap.size → w1.cell? ⟨g, 0, none⟩ = some (.int .i64 k2) → w1.cell? ⟨g, 1, none⟩ = some (.string (ba' n2)) → w1.cell? ⟨g, 2, none⟩ = some (.string (ba' v2)) → w1.cell? ⟨g, 3, none⟩ = some (.slice A2 np2 ac2) → w1.cell? ⟨g, 4, none⟩ = some (.slice K2 nk2 kc2) → Calls Tryd.prog 14 #[.int .i64 2000, .slice (some ⟨g, 0, none⟩) 1 cap] w1 fun e w' => e = .returned (.bool true) ∧ Below w1.heap.size w1 w'))
    (HR : Hid (∀ w1 : World, Below w.heap.size w w1 → Calls Tryd.prog 15 #[.agg #[.int .i64 k, .string (ba' n), .string (ba' v), .slice A np ac, .slice K nk kc], .int .i64 0] w1 fun e w' => e = .returned (.bool true) ∧ Below w1.heap.size w1 w')) (HC1 : Hid (∀ w1 : World, Below w.heap.size w w1 → Calls Tryd.prog 17 #[.agg #[.int .i64 k, .string (ba' n), .string (ba' v), .slice A np ac, .slice K nk kc]] w1 fun e w' => ∃ t' : Tr, e = .returned t'.v ∧ t'.pl = T ∧ t'.In (NewB w1 w') w' ∧ Below w1.heap.size w1 w')) (HC2 : Hid (∀ w1 : World, Below w.heap.size w w1 → Calls Tryd.prog 17 #[.agg #[.int .i64 k2, .string (ba' n2), .string (ba' v2), .slice A2 np2 ac2, .slice K2 nk2 kc2]] w1 fun e w' => ∃ t' : Tr, e = .returned t'.v ∧ t'.pl = M ∧ t'.In (NewB w1 w') w' ∧ Below w1.heap.size w1 w')) (HSM : Hid (∀ w1 : World, Below w.heap.size w w1 → ∀ t8 : Tr, t8.In (fun b => b < w1.heap.size) w1 → t8.pl = T → Calls Tryd.prog 27 #[t8.v, .agg #[.int .i64 k, .string (ba' n), .string (ba' v), .slice A np ac, .slice K nk kc]] w1 fun e w' => e = .returned (.bool true) ∧ Below w1.heap.size w1 w')) : Calls Tryd.prog 4 #[.agg #[.int .i64 k, .string (ba' n), .string (ba' v), .slice A np ac, .slice K nk kc], .agg #[.int .i64 k2, .string (ba' n2), .string (ba' v2), .slice A2 np2 ac2, .slice K2 nk2 kc2]] w fun e w' => e = .returned (.bool true) ∧ Below w.heap.size w w' := by
  have HT := Lib.hid hT; have HRT := Lib.hid hr; have HBK := Lib.hid hbk; have HBM := Lib.hid hbm; have HSZ := Lib.hid hs; have HSZM := Lib.hid hsm
  have HNEW := Lib.hid (new_l 10000 (by decide) (by decide))
  simp only [show ((10000 : Nat) : Int) = 10000 from rfl] at HNEW
  clear hT hr hbk hbm hs hsm
  go_enter Tryd.func4, Tryd.ntmps4
  go_wp2_with fail
  refine (HW.out _ (by repeat (with_reducible (first | exact Below.refl _ _ | assumption | apply ba | apply bd | apply bdr | (refine bs ?_ (by first | assumption | (simp; done) | (simp; omega))) | (refine bt ?_ (by assumption)))))).mono ?_
  rintro e w1 ⟨rfl, hb1⟩
  have b1 : Blk w1 w.heap.size 33 #[.int .i64 k, .string (ba' n), .string (ba' v), .slice A np ac, .slice K nk kc] := Blk.below ((Blk.new w 33 _).alloc _) hb1 (by first | assumption | (simp; done) | (simp; omega) | omega)
  have m1 : Blk w1 (w.heap.size + 1) 33 #[.int .i64 k2, .string (ba' n2), .string (ba' v2), .slice A2 np2 ac2, .slice K2 nk2 kc2] := by
    have := Blk.below (Blk.new (w.alloc (.cells #[.int .i64 k, .string (ba' n), .string (ba' v), .slice A np ac, .slice K nk kc] 33)) 33 #[.int .i64 k2, .string (ba' n2), .string (ba' v2), .slice A2 np2 ac2, .slice K2 nk2 kc2]) hb1 (by simp)
    have e1 : (w.alloc (Obj.cells #[.int .i64 k, .string (ba' n), .string (ba' v), .slice A np ac, .slice K nk kc] 33)).heap.size = w.heap.size + 1 := by simp
    rw [e1] at this
    exact this
  have B1 : Below w.heap.size w w1 := (by repeat (with_reducible (first | exact Below.refl _ _ | assumption | apply ba | apply bd | apply bdr | (refine bs ?_ (by first | assumption | (simp; done) | (simp; omega))) | (refine bt ?_ (by assumption)))))
  have z1 : w.heap.size + 1 < w1.heap.size := m1.lt
  have BB := Lib.hid b1; have BM := Lib.hid m1
  clear hb1 b1 m1
  have h0 := BB.out.cell 0
  have h1 := BB.out.cell 1
  have h2 := BB.out.cell 2
  have h3 := BB.out.cell 3
  have h4 := BB.out.cell 4
  simp only [List.getElem?_toArray, List.getElem?_cons_zero, List.getElem?_cons_succ] at h0 h1 h2 h3 h4
  go_wp2_with fail
  refine (HF.out _ _ _ (by repeat (with_reducible (first | exact Below.refl _ _ | assumption | apply ba | apply bd | apply bdr | (refine bs ?_ (by first | assumption | (simp; done) | (simp; omega))) | (refine bt ?_ (by assumption))))) (by simp) (by first | (simp; done) | (simp [*]; done)) (by first | (simp; done) | (simp [*]; done)) (by first | (simp; done) | (simp [*]; done)) (by first | (simp; done) | (simp [*]; done)) (by first | (simp; done) | (simp [*]; done))).mono ?_
  rintro e w2 ⟨rfl, hb2⟩
  clear h0 h1 h2 h3 h4
  have b2 : Blk w2 w.heap.size 33 #[.int .i64 k, .string (ba' n), .string (ba' v), .slice A np ac, .slice K nk kc] := by first | exact BB.out.below hb2 (by first | assumption | (simp; done) | (simp; omega) | omega) | exact (BB.out.alloc _).below hb2 (by first | assumption | (simp; done) | (simp; omega) | omega)
  have m2 : Blk w2 (w.heap.size + 1) 33 #[.int .i64 k2, .string (ba' n2), .string (ba' v2), .slice A2 np2 ac2, .slice K2 nk2 kc2] := by first | exact BM.out.below hb2 (by first | assumption | (simp; done) | (simp; omega) | omega) | exact (BM.out.alloc _).below hb2 (by first | assumption | (simp; done) | (simp; omega) | omega)
  clear BB BM
  have B2 : Below w.heap.size w w2 := (by repeat (with_reducible (first | exact Below.refl _ _ | assumption | apply ba | apply bd | apply bdr | (refine bs ?_ (by first | assumption | (simp; done) | (simp; omega))) | (refine bt ?_ (by assumption)))))
  have z2 : w.heap.size + 1 < w2.heap.size := m2.lt
  have BB := Lib.hid b2; have BM := Lib.hid m2
  clear hb2 b2 m2
  have h0 := BM.out.cell 0
  have h1 := BM.out.cell 1
  have h2 := BM.out.cell 2
  have h3 := BM.out.cell 3
  have h4 := BM.out.cell 4
  simp only [List.getElem?_toArray, List.getElem?_cons_zero, List.getElem?_cons_succ] at h0 h1 h2 h3 h4
  go_wp2_with fail
  refine (HM.out _ _ _ (by repeat (with_reducible (first | exact Below.refl _ _ | assumption | apply ba | apply bd | apply bdr | (refine bs ?_ (by first | assumption | (simp; done) | (simp; omega))) | (refine bt ?_ (by assumption))))) (by simp) (by first | (simp; done) | (simp [*]; done)) (by first | (simp; done) | (simp [*]; done)) (by first | (simp; done) | (simp [*]; done)) (by first | (simp; done) | (simp [*]; done)) (by first | (simp; done) | (simp [*]; done))).mono ?_
  rintro e w3 ⟨rfl, hb3⟩
  clear h0 h1 h2 h3 h4
  have b3 : Blk w3 w.heap.size 33 #[.int .i64 k, .string (ba' n), .string (ba' v), .slice A np ac, .slice K nk kc] := by first | exact BB.out.below hb3 (by first | assumption | (simp; done) | (simp; omega) | omega) | exact (BB.out.alloc _).below hb3 (by first | assumption | (simp; done) | (simp; omega) | omega)
  have m3 : Blk w3 (w.heap.size + 1) 33 #[.int .i64 k2, .string (ba' n2), .string (ba' v2), .slice A2 np2 ac2, .slice K2 nk2 kc2] := by first | exact BM.out.below hb3 (by first | assumption | (simp; done) | (simp; omega) | omega) | exact (BM.out.alloc _).below hb3 (by first | assumption | (simp; done) | (simp; omega) | omega)
  clear BB BM
  have B3 : Below w.heap.size w w3 := (by repeat (with_reducible (first | exact Below.refl _ _ | assumption | apply ba | apply bd | apply bdr | (refine bs ?_ (by first | assumption | (simp; done) | (simp; omega))) | (refine bt ?_ (by assumption)))))
  have z3 : w.heap.size + 1 < w3.heap.size := m3.lt
  have BB := Lib.hid b3; have BM := Lib.hid m3
  clear hb3 b3 m3
  have h0 := BB.out.cell 0
  have h1 := BB.out.cell 1
  have h2 := BB.out.cell 2
  have h3 := BB.out.cell 3
  have h4 := BB.out.cell 4
  simp only [List.getElem?_toArray, List.getElem?_cons_zero, List.getElem?_cons_succ] at h0 h1 h2 h3 h4
  go_wp2_with fail
  refine (HR.out _ (by repeat (with_reducible (first | exact Below.refl _ _ | assumption | apply ba | apply bd | apply bdr | (refine bs ?_ (by first | assumption | (simp; done) | (simp; omega))) | (refine bt ?_ (by assumption)))))).mono ?_
  rintro e w4 ⟨rfl, hb4⟩
  clear h0 h1 h2 h3 h4
  have b4 : Blk w4 w.heap.size 33 #[.int .i64 k, .string (ba' n), .string (ba' v), .slice A np ac, .slice K nk kc] := by first | exact BB.out.below hb4 (by first | assumption | (simp; done) | (simp; omega) | omega) | exact (BB.out.alloc _).below hb4 (by first | assumption | (simp; done) | (simp; omega) | omega)
  have m4 : Blk w4 (w.heap.size + 1) 33 #[.int .i64 k2, .string (ba' n2), .string (ba' v2), .slice A2 np2 ac2, .slice K2 nk2 kc2] := by first | exact BM.out.below hb4 (by first | assumption | (simp; done) | (simp; omega) | omega) | exact (BM.out.alloc _).below hb4 (by first | assumption | (simp; done) | (simp; omega) | omega)
  clear BB BM
  have B4 : Below w.heap.size w w4 := (by repeat (with_reducible (first | exact Below.refl _ _ | assumption | apply ba | apply bd | apply bdr | (refine bs ?_ (by first | assumption | (simp; done) | (simp; omega))) | (refine bt ?_ (by assumption)))))
  have z4 : w.heap.size + 1 < w4.heap.size := m4.lt
  have BB := Lib.hid b4; have BM := Lib.hid m4
  clear hb4 b4 m4
  go_wp2_with fail
  refine (HNEW.out _).mono ?_
  rintro e w5 ⟨rfl, hst5, hb5, hz5⟩
  have HST := Lib.hid hst5
  obtain ⟨sb, hsb⟩ : ∃ sb, w4.heap.size = sb := ⟨_, rfl⟩
  have hwsb : w.heap.size + 1 < sb := by omega
  have b5 : Blk w5 w.heap.size 33 #[.int .i64 k, .string (ba' n), .string (ba' v), .slice A np ac, .slice K nk kc] := by first | exact BB.out.below hb5 (by first | assumption | (simp; done) | (simp; omega) | omega) | exact (BB.out.alloc _).below hb5 (by first | assumption | (simp; done) | (simp; omega) | omega)
  have m5 : Blk w5 (w.heap.size + 1) 33 #[.int .i64 k2, .string (ba' n2), .string (ba' v2), .slice A2 np2 ac2, .slice K2 nk2 kc2] := by first | exact BM.out.below hb5 (by first | assumption | (simp; done) | (simp; omega) | omega) | exact (BM.out.alloc _).below hb5 (by first | assumption | (simp; done) | (simp; omega) | omega)
  clear BB BM
  have B5 : Below w.heap.size w w5 := (by repeat (with_reducible (first | exact Below.refl _ _ | assumption | apply ba | apply bd | apply bdr | (refine bs ?_ (by first | assumption | (simp; done) | (simp; omega))) | (refine bt ?_ (by assumption)))))
  have z5 : w.heap.size + 1 < w5.heap.size := m5.lt
  have BB := Lib.hid b5; have BM := Lib.hid m5
  clear hb5 b5 m5
  rw [hsb] at HST
  simp only [hsb]
  clear hst5 hz5 hsb
  have h0 := BB.out.cell 0
  have h1 := BB.out.cell 1
  have h2 := BB.out.cell 2
  have h3 := BB.out.cell 3
  have h4 := BB.out.cell 4
  simp only [List.getElem?_toArray, List.getElem?_cons_zero, List.getElem?_cons_succ] at h0 h1 h2 h3 h4
  go_wp2_with fail
  refine (HC1.out _ (by repeat (with_reducible (first | exact Below.refl _ _ | assumption | apply ba | apply bd | apply bdr | (refine bs ?_ (by first | assumption | (simp; done) | (simp; omega))) | (refine bt ?_ (by assumption)))))).mono ?_
  rintro e w6 ⟨t1, rfl, hp1, hin1, hb6⟩
  clear h0 h1 h2 h3 h4
  have hbx6 := hb6
  have b6 : Blk w6 w.heap.size 33 #[.int .i64 k, .string (ba' n), .string (ba' v), .slice A np ac, .slice K nk kc] := by first | exact BB.out.below hb6 (by first | assumption | (simp; done) | (simp; omega) | omega) | exact (BB.out.alloc _).below hb6 (by first | assumption | (simp; done) | (simp; omega) | omega)
  have m6 : Blk w6 (w.heap.size + 1) 33 #[.int .i64 k2, .string (ba' n2), .string (ba' v2), .slice A2 np2 ac2, .slice K2 nk2 kc2] := by first | exact BM.out.below hb6 (by first | assumption | (simp; done) | (simp; omega) | omega) | exact (BM.out.alloc _).below hb6 (by first | assumption | (simp; done) | (simp; omega) | omega)
  clear BB BM
  have B6 : Below w.heap.size w w6 := (by repeat (with_reducible (first | exact Below.refl _ _ | assumption | apply ba | apply bd | apply bdr | (refine bs ?_ (by first | assumption | (simp; done) | (simp; omega))) | (refine bt ?_ (by assumption)))))
  have z6 : w.heap.size + 1 < w6.heap.size := m6.lt
  have BB := Lib.hid b6; have BM := Lib.hid m6
  clear hb6 b6 m6
  have hap1 : Apart (NewB w5 w6) sb none w6 := fun b hb => ⟨hb.2, by have := hb.1; have := HST.out.1; omega, by simp [blkOf]⟩
  have HB1 := Lib.hid (build_ok t1 (NewB w5 w6) w6 sb 10000 none 0 [] (Utf8Tabs_below HT.out B6) (HST.out.below hbx6) hin1 hap1 (by rw [hp1]; exact fit_of_bulk HBK.out) (by decide) (by simp) (by rw [hp1]; exact HRT.out) (by rw [hp1]; have := HSZ.out; simp; omega))
  rw [hp1, show ((([] : List En).length + 1 : Nat) : Int) = 1 from rfl, List.nil_append] at HB1
  obtain ⟨k3, n3, v3, A3, ac3, ps3, K3, kc3, ks3⟩ := t1
  simp only [Tr.v] at HB1 ⊢
  clear hp1 hin1 hap1 hbx6
  go_wp2_with fail
  refine HB1.out.mono ?_
  rintro e w7 ⟨rfl, A7, c7, hS7, hB7⟩
  have hb7 : Below (w.heap.size + 2) w6 w7 := hB7.below (by omega) (fun b h => by simp [blkOf] at h) (by omega)
  have b7 : Blk w7 w.heap.size 33 #[.int .i64 k, .string (ba' n), .string (ba' v), .slice A np ac, .slice K nk kc] := BB.out.below hb7 (by omega)
  have m7 : Blk w7 (w.heap.size + 1) 33 #[.int .i64 k2, .string (ba' n2), .string (ba' v2), .slice A2 np2 ac2, .slice K2 nk2 kc2] := BM.out.below hb7 (by omega)
  have B7 : Below w.heap.size w w7 := B6.trans (hb7.mono (by omega))
  have z7 : w.heap.size + 1 < w7.heap.size := m7.lt
  clear BB BM
  have BB := Lib.hid b7; have BM := Lib.hid m7; have HS7 := Lib.hid hS7
  clear hb7 b7 m7 HB1 hS7 hB7
  have h0 := BM.out.cell 0
  have h1 := BM.out.cell 1
  have h2 := BM.out.cell 2
  have h3 := BM.out.cell 3
  have h4 := BM.out.cell 4
  simp only [List.getElem?_toArray, List.getElem?_cons_zero, List.getElem?_cons_succ] at h0 h1 h2 h3 h4
  go_wp2_with fail
  refine (HC2.out _ (by repeat (with_reducible (first | exact Below.refl _ _ | assumption | apply ba | apply bd | apply bdr | (refine bs ?_ (by first | assumption | (simp; done) | (simp; omega))) | (refine bt ?_ (by assumption)))))).mono ?_
  rintro e w8 ⟨t2, rfl, hp2, hin2, hb8⟩
  clear h0 h1 h2 h3 h4
  have hbx8 := hb8
  have b8 : Blk w8 w.heap.size 33 #[.int .i64 k, .string (ba' n), .string (ba' v), .slice A np ac, .slice K nk kc] := by first | exact BB.out.below hb8 (by first | assumption | (simp; done) | (simp; omega) | omega) | exact (BB.out.alloc _).below hb8 (by first | assumption | (simp; done) | (simp; omega) | omega)
  have m8 : Blk w8 (w.heap.size + 1) 33 #[.int .i64 k2, .string (ba' n2), .string (ba' v2), .slice A2 np2 ac2, .slice K2 nk2 kc2] := by first | exact BM.out.below hb8 (by first | assumption | (simp; done) | (simp; omega) | omega) | exact (BM.out.alloc _).below hb8 (by first | assumption | (simp; done) | (simp; omega) | omega)
  clear BB BM
  have B8 : Below w.heap.size w w8 := (by repeat (with_reducible (first | exact Below.refl _ _ | assumption | apply ba | apply bd | apply bdr | (refine bs ?_ (by first | assumption | (simp; done) | (simp; omega))) | (refine bt ?_ (by assumption)))))
  have z8 : w.heap.size + 1 < w8.heap.size := m8.lt
  have BB := Lib.hid b8; have BM := Lib.hid m8
  clear hb8 b8 m8
  have hlt7 := fun (b : Nat) (h : blkOf A7 = some b) => HS7.out.lt h
  have hap2 : Apart (NewB w7 w8) sb A7 w8 := fun b hb => ⟨hb.2, by have := hb.1; have := HS7.out.1; omega, fun h => by have := (hlt7 b h).2; have := hb.1; omega⟩
  have hN7 : Nest 0 0 (T.lay 0 0) := nest_lay T 0 0 0 HRT.out (Nat.le_refl _)
  have HB2 := Lib.hid (build_more t2 (NewB w7 w8) w8 sb 10000 A7 c7 (T.lay 0 0) (Utf8Tabs_below HT.out B8) (HS7.out.below hbx8) hin2 hap2 (by rw [hp2]; exact fit_of_bulk HBM.out) (by decide) (by rw [lay_len]; have := HSZ.out; omega) hN7)
  rw [hp2] at HB2
  obtain ⟨k4, n4, v4, A4, ac4, ps4, K4, kc4, ks4⟩ := t2
  simp only [Tr.v] at HB2 ⊢
  have HL7 := Lib.hid hlt7
  clear hp2 hin2 hap2 hbx8 hN7 hlt7
  go_wp2_with fail
  refine HB2.out.mono ?_
  rintro e w9 ⟨⟨x1, x2, rfl⟩, A9, c9, N, hS9, hB9, hN9, hl9⟩
  have hb9 : Below (w.heap.size + 2) w8 w9 := hB9.below (by omega) (fun b h => by have := (HL7.out b h).1; omega) (by omega)
  have b9 : Blk w9 w.heap.size 33 #[.int .i64 k, .string (ba' n), .string (ba' v), .slice A np ac, .slice K nk kc] := BB.out.below hb9 (by omega)
  have m9 : Blk w9 (w.heap.size + 1) 33 #[.int .i64 k2, .string (ba' n2), .string (ba' v2), .slice A2 np2 ac2, .slice K2 nk2 kc2] := BM.out.below hb9 (by omega)
  have B9 : Below w.heap.size w w9 := B8.trans (hb9.mono (by omega))
  have z9 : w.heap.size + 1 < w9.heap.size := m9.lt
  have hsb9 : sb < w9.heap.size := hS9.1
  clear BB BM
  have BB := Lib.hid b9; have BM := Lib.hid m9
  have hln : (T.lay 0 0 ++ N).length ≤ 4000 := by rw [List.length_append, lay_len]; have := HSZ.out; have := HSZM.out; omega
  have hla : LaidAt (T.lay 0 0 ++ N) T 0 0 := ⟨[], N, rfl, rfl⟩
  generalize T.lay 0 0 ++ N = L9 at hS9 hN9 hln hla
  have HLEN := Lib.hid (len_any sb 10000 A9 c9 L9 w9 hS9)
  have HS9 := Lib.hid hS9; have HN9 := Lib.hid hN9; have HLN := Lib.hid hln; have HLA := Lib.hid hla
  clear hb9 b9 m9 HB2 hS9 hB9 hN9 hl9 HL7 hln hla HS7 HST
  go_wp2_with fail
  refine HLEN.out.mono ?_
  rintro e w10 ⟨rfl, hb10⟩
  have hbx10 := hb10
  have b10 : Blk w10 w.heap.size 33 #[.int .i64 k, .string (ba' n), .string (ba' v), .slice A np ac, .slice K nk kc] := by first | exact BB.out.below hb10 (by first | assumption | (simp; done) | (simp; omega) | omega) | exact (BB.out.alloc _).below hb10 (by first | assumption | (simp; done) | (simp; omega) | omega)
  have m10 : Blk w10 (w.heap.size + 1) 33 #[.int .i64 k2, .string (ba' n2), .string (ba' v2), .slice A2 np2 ac2, .slice K2 nk2 kc2] := by first | exact BM.out.below hb10 (by first | assumption | (simp; done) | (simp; omega) | omega) | exact (BM.out.alloc _).below hb10 (by first | assumption | (simp; done) | (simp; omega) | omega)
  clear BB BM
  have B10 : Below w.heap.size w w10 := (by repeat (with_reducible (first | exact Below.refl _ _ | assumption | apply ba | apply bd | apply bdr | (refine bs ?_ (by first | assumption | (simp; done) | (simp; omega))) | (refine bt ?_ (by assumption)))))
  have z10 : w.heap.size + 1 < w10.heap.size := m10.lt
  have BB := Lib.hid b10; have BM := Lib.hid m10
  clear hb10 b10 m10
  have HTR := Lib.hid (tree_any T w10 sb 10000 A9 c9 L9 0 0 0 1 rfl (HS9.out.below hbx10) HLA.out (by have := HLN.out; omega) HRT.out)
  simp only [show ((1 : Nat) : Int) = 1 from rfl] at HTR
  obtain ⟨ln, hlen⟩ : ∃ ln, L9.length = ln := ⟨_, rfl⟩
  simp only [hlen]
  clear HLEN
  go_wp2_with fail
  refine HTR.out.mono ?_
  rintro e w11 ⟨t3, rfl, hp3, hin3, hb11⟩
  have hbx11 := hb11
  have b11 : Blk w11 w.heap.size 33 #[.int .i64 k, .string (ba' n), .string (ba' v), .slice A np ac, .slice K nk kc] := by first | exact BB.out.below hb11 (by first | assumption | (simp; done) | (simp; omega) | omega) | exact (BB.out.alloc _).below hb11 (by first | assumption | (simp; done) | (simp; omega) | omega)
  have m11 : Blk w11 (w.heap.size + 1) 33 #[.int .i64 k2, .string (ba' n2), .string (ba' v2), .slice A2 np2 ac2, .slice K2 nk2 kc2] := by first | exact BM.out.below hb11 (by first | assumption | (simp; done) | (simp; omega) | omega) | exact (BM.out.alloc _).below hb11 (by first | assumption | (simp; done) | (simp; omega) | omega)
  clear BB BM
  have B11 : Below w.heap.size w w11 := (by repeat (with_reducible (first | exact Below.refl _ _ | assumption | apply ba | apply bd | apply bdr | (refine bs ?_ (by first | assumption | (simp; done) | (simp; omega))) | (refine bt ?_ (by assumption)))))
  have z11 : w.heap.size + 1 < w11.heap.size := m11.lt
  have BB := Lib.hid b11; have BM := Lib.hid m11
  clear hb11 b11 m11
  have hS11 := (HS9.out.below hbx10).below hbx11
  have hlt11 := fun (b : Nat) (h : blkOf A9 = some b) => (HS9.out.below hbx10).lt h
  have hap3 : Apart (NewB w10 w11) sb A9 w11 := fun b hb => ⟨hb.2, by have := hb.1; have := (HS9.out.below hbx10).1; omega, fun h => by have := (hlt11 b h).2; have := hb.1; omega⟩
  have HB3 := Lib.hid (build_ok t3 (NewB w10 w11) w11 sb 10000 A9 c9 L9 (Utf8Tabs_below HT.out B11) hS11 hin3 hap3 (by rw [hp3]; exact fit_of_bulk HBK.out) (by decide) (by have := HLN.out; omega) (by rw [hp3]; exact HRT.out) (by rw [hp3]; have := HSZ.out; have := HLN.out; omega))
  rw [hp3, hlen, show ((ln + 1 : Nat) : Int) = (ln : Int) + 1 by omega] at HB3
  obtain ⟨k5, n5, v5, A5, ac5, ps5, K5, kc5, ks5⟩ := t3
  simp only [Tr.v] at HB3 ⊢
  have HL11 := Lib.hid hlt11
  have HLE := Lib.hid hlen
  clear hp3 hin3 hap3 hbx10 hbx11 hS11 hlt11 hlen HTR
  go_wp2_with fail
  refine HB3.out.mono ?_
  rintro e w12 ⟨rfl, A12, c12, hS12, hB12⟩
  have hb12 : Below (w.heap.size + 2) w11 w12 := hB12.below (by omega) (fun b h => by have := (HL11.out b h).1; omega) (by omega)
  have b12 : Blk w12 w.heap.size 33 #[.int .i64 k, .string (ba' n), .string (ba' v), .slice A np ac, .slice K nk kc] := BB.out.below hb12 (by omega)
  have B12 : Below w.heap.size w w12 := B11.trans (hb12.mono (by omega))
  clear BB BM HB3
  have h0 := b12.cell 0
  have h1 := b12.cell 1
  have h2 := b12.cell 2
  have h3 := b12.cell 3
  have h4 := b12.cell 4
  simp only [List.getElem?_toArray, List.getElem?_cons_zero, List.getElem?_cons_succ] at h0 h1 h2 h3 h4
  have hll : (L9 ++ T.lay ln 0).length = ln + T.size := by rw [List.length_append, HLE.out, lay_len]
  have hl12 : (L9 ++ T.lay ln 0).length ≤ 1048576 := by rw [hll]; have := HLE.out; have := HLN.out; have := HSZ.out; omega
  have hla1 : LaidAt (L9 ++ T.lay ln 0) T 0 0 := HLA.out.more
  have hla2 : LaidAt (L9 ++ T.lay ln 0) T ln 0 := by have := LaidAt.last L9 T 0; rw [HLE.out] at this; exact this
  have hN12 : Nest 0 0 (L9 ++ T.lay ln 0) := by have := nest_more HN9.out HRT.out; rw [HLE.out] at this; exact this
  have hpar : par (L9 ++ T.lay ln 0) (ln + 1) = 0 ∧ fin (L9 ++ T.lay ln 0) (ln + 1) = ln + T.size := by
    have hs := size_pos T
    obtain ⟨k6, n6, v6, ps6, ks6⟩ := T
    have hat := hla2.at_ (lay_head k6 n6 v6 ps6 ks6 ln 0)
    unfold par fin
    rw [show ln + 1 - 1 = ln + 0 by omega, hat]
    exact ⟨rfl, by rw [PT.size]; rfl⟩
  have hsz := size_pos T
  have hb6 : ln ≤ 1048576 := by omega
  have HLN2 := Lib.hid hpar; have HLL := Lib.hid hll; have HL12 := Lib.hid hl12; have HA1 := Lib.hid hla1; have HA2 := Lib.hid hla2; have HN12 := Lib.hid hN12; have HS12 := Lib.hid hS12; have HSP := Lib.hid hsz
  generalize L9 ++ T.lay ln 0 = LL at HLN2 HLL HL12 HA1 HA2 HN12 HS12
  clear hpar hll hl12 hla1 hla2 hN12 hS12 hsz hB12 hb12 b12
  go_upto_region 10 with fail
  refine Nb_region k (ln : Int) ((ln + T.size : Nat) : Int) n v A np ac K nk kc T (ba' T.str) sb w.heap.size _ _ _ _ _ _ _ _ _ _ _ _ _ _ _ _ _ _ _ _ _ _ _ _ _ _ _ _ _ _ _ _ _ _ _ _ _ _ _ _ _ _ _ _ _ _ _ _ _ _ _ _ _ _ _ _ _ _ _ _ _ _ _ _ _ _ _ _ _ _ _ _ _ _ _ _ _ _ _ _ _ _ _ _ _ _ _ _ _ _ _ _ _ _ _ _ _ _ _ _ _ _ _ _ _ _ _ _ _ _ w12 w12 _ (Below.refl _ _) h0 h1 h2 h3 h4 (by omega) (by omega) ?_ ?_ ?_ ?_ ?_ ?_ ?_ ?_ ?_
  · exact Lib.hid fun w1 hb => (tree_any T w1 sb 10000 A12 c12 LL 0 0 0 1 rfl (HS12.out.below hb) HA1.out HL12.out HRT.out).mono fun e w' ⟨t', h1, h2, h3, h4⟩ => ⟨_, h1, ⟨t', rfl, h2, h3.keep (fun b hb => hb.2) (fun _ _ => rfl)⟩, h4⟩
  · exact Lib.hid fun w1 hb t8 hin hp => HSM.out w1 (B12.trans (hb.mono B12.size)) t8 hin hp
  · exact Lib.hid fun w1 hb => (tree_any T w1 sb 10000 A12 c12 LL ln 0 0 (ln + 1) rfl (HS12.out.below hb) HA2.out HL12.out HRT.out).mono fun e w' ⟨t', h1, h2, h3, h4⟩ => ⟨_, h1, ⟨t', rfl, h2, h3.keep (fun b hb => hb.2) (fun _ _ => rfl)⟩, h4⟩
  · exact Lib.hid fun w1 hb => string_of sb 10000 A12 c12 LL T 0 0 1 w1 rfl (HS12.out.below hb) HA1.out HL12.out HBK.out
  · exact Lib.hid fun w1 hb => string_of sb 10000 A12 c12 LL T ln 0 (ln + 1) w1 rfl (HS12.out.below hb) HA2.out HL12.out HBK.out
  · exact Lib.hid fun w1 hb => by
      have := root_of sb 10000 A12 c12 LL (ln + 1) w1 (HS12.out.below hb) HN12.out HL12.out (by omega) (by have := HLL.out; have := HSP.out; omega)
      rw [root_zero HN12.out (by omega) (by have := HLL.out; have := HSP.out; omega) HLN2.out.1] at this
      exact this
  · exact Lib.hid fun w1 hb => by
      have := end_of sb 10000 A12 c12 LL (ln + 1) w1 (HS12.out.below hb) HL12.out (by omega) (by have := HLL.out; have := HSP.out; omega)
      rw [HLN2.out.2] at this
      exact this
  · exact Lib.hid fun w1 hb => by
      have := len_any sb 10000 A12 c12 LL w1 (HS12.out.below hb)
      rw [HLL.out] at this
      exact this
  · intro w13 y82 y89 _ hb13
    go_wp2
    go_ret
    exact ⟨rfl, B12.trans (hb13.mono B12.size)⟩
end Go.Proofs.YtcmlfkoeajpliaaDoor
namespace Go.Proofs.YtcmlfkoeajpliaaDoor
open Go.RowKit Go.Lib
set_option maxRecDepth 100000
theorem back_law (t u : Tr) (w : World) (hT : tabs w) (hin : t.In (fun b => b < w.heap.size) w) (hin2 : u.In (fun b => b < w.heap.size) w) (hbk : t.pl.bulk ≤ 1048576) (hbu : u.pl.bulk ≤ 1048576) :
    Calls Tryd.prog 4 #[t.v, u.v] w fun e w' => e = .returned (.bool true) ∧ Below w.heap.size w w' := by
  have HW : Hid (∀ w1 : World, Below w.heap.size w w1 → Calls Tryd.prog 12 #[] w1 fun e w' => e = .returned (.bool true) ∧ Below w1.heap.size w1 w') :=
    Lib.hid fun w1 h1 => awake5 w1 (Utf8Tabs_below hT h1)
  have hP : ∀ w1 : World, Below w.heap.size w w1 → ∀ b, b < w.heap.size → b < w1.heap.size := fun w1 h1 b hb => Nat.lt_of_lt_of_le hb (Below.size h1)
  have HC1 : Hid (∀ w1 : World, Below w.heap.size w w1 → Calls Tryd.prog 17 #[t.v] w1 fun e w' => ∃ t' : Tr, e = .returned t'.v ∧ t'.pl = t.pl ∧ t'.In (NewB w1 w') w' ∧ Below w1.heap.size w1 w') :=
    Lib.hid fun w1 h1 => copy_any t _ w1 (hin.below (fun _ h => h) h1) (hP w1 h1) (fit_of_bulk hbk)
  have HC2 : Hid (∀ w1 : World, Below w.heap.size w w1 → Calls Tryd.prog 17 #[u.v] w1 fun e w' => ∃ t' : Tr, e = .returned t'.v ∧ t'.pl = u.pl ∧ t'.In (NewB w1 w') w' ∧ Below w1.heap.size w1 w') :=
    Lib.hid fun w1 h1 => copy_any u _ w1 (hin2.below (fun _ h => h) h1) (hP w1 h1) (fit_of_bulk hbu)
  have HSM : Hid (∀ w1 : World, Below w.heap.size w w1 → ∀ t8 : Tr, t8.In (fun b => b < w1.heap.size) w1 → t8.pl = t.pl → Calls Tryd.prog 27 #[t8.v, t.v] w1 fun e w' => e = .returned (.bool true) ∧ Below w1.heap.size w1 w') :=
    Lib.hid fun w1 h1 t8 h8 hp => same_any t8 t _ _ w1 h8 (hin.below (fun _ h => h) h1) (fun _ h => h) (hP w1 h1) hp (by rw [hp]; exact fit_of_bulk hbk)
  have HR : Hid (∀ w1 : World, Below w.heap.size w w1 → Calls Tryd.prog 15 #[t.v, .int .i64 0] w1 fun e w' => e = .returned (.bool (t.pl.right 0)) ∧ Below w1.heap.size w1 w') :=
    Lib.hid fun w1 h1 => refRight_any t _ w1 0 (hin.below (fun _ h => h) h1) (hP w1 h1) hbk (by omega)
  obtain ⟨k, n, v, A, ac, ps, K, kc, ks⟩ := t
  obtain ⟨k2, n2, v2, A2, ac2, ps2, K2, kc2, ks2⟩ := u
  have HF : Hid (∀ (w1 : World) (g cap : Nat), Below w.heap.size w w1 → g < w1.heap.size → w1.cell? ⟨g, 0, none⟩ = some (.int .i64 k) → w1.cell? ⟨g, 1, none⟩ = some (.string (ba' n)) → w1.cell? ⟨g, 2, none⟩ = some (.string (ba' v)) → w1.cell? ⟨g, 3, none⟩ = some (.slice A ps.length ac) → w1.cell? ⟨g, 4, none⟩ = some (.slice K ks.length kc) →
      Calls Tryd.prog 14 #[.int .i64 2000, .slice (some ⟨g, 0, none⟩) 1 cap] w1 fun e w' => e = .returned (.bool (decide ((Tr.mk k n v A ac ps K kc ks).pl.size ≤ 2000))) ∧ Below w1.heap.size w1 w') :=
    Lib.hid fun w1 g cap h1 hg h0 ha hb hc hd => few_one k n v A ac ps K kc ks _ w1 2000 g cap (hin.below (fun _ h => h) h1) (hP w1 h1) (fit_of_bulk hbk).2 (by omega) hg h0 ha hb hc hd
  have HM : Hid (∀ (w1 : World) (g cap : Nat), Below w.heap.size w w1 → g < w1.heap.size → w1.cell? ⟨g, 0, none⟩ = some (.int .i64 k2) → w1.cell? ⟨g, 1, none⟩ = some (.string (ba' n2)) → w1.cell? ⟨g, 2, none⟩ = some (.string (ba' v2)) → w1.cell? ⟨g, 3, none⟩ = some (.slice A2 ps2.length ac2) → w1.cell? ⟨g, 4, none⟩ = some (.slice K2 ks2.length kc2) →
      Calls Tryd.prog 14 #[.int .i64 2000, .slice (some ⟨g, 0, none⟩) 1 cap] w1 fun e w' => e = .returned (.bool (decide ((Tr.mk k2 n2 v2 A2 ac2 ps2 K2 kc2 ks2).pl.size ≤ 2000))) ∧ Below w1.heap.size w1 w') :=
    Lib.hid fun w1 g cap h1 hg h0 ha hb hc hd => few_one k2 n2 v2 A2 ac2 ps2 K2 kc2 ks2 _ w1 2000 g cap (hin2.below (fun _ h => h) h1) (hP w1 h1) (fit_of_bulk hbu).2 (by omega) hg h0 ha hb hc hd
  generalize hr : (Tr.mk k n v A ac ps K kc ks).pl.right 0 = rb at HR
  cases hf : decide ((Tr.mk k n v A ac ps K kc ks).pl.size ≤ 2000) with
  | false =>
    rw [hf] at HF
    exact back_few k n v A K ps.length ks.length ac kc k2 n2 v2 A2 K2 ps2.length ks2.length ac2 kc2 w HW HF
  | true =>
    rw [hf] at HF
    cases hm : decide ((Tr.mk k2 n2 v2 A2 ac2 ps2 K2 kc2 ks2).pl.size ≤ 2000) with
    | false =>
      rw [hm] at HM
      exact back_few2 k n v A K ps.length ks.length ac kc k2 n2 v2 A2 K2 ps2.length ks2.length ac2 kc2 w HW HF HM
    | true =>
      rw [hm] at HM
      cases rb with
      | false => exact back_right k n v A K ps.length ks.length ac kc k2 n2 v2 A2 K2 ps2.length ks2.length ac2 kc2 w HW HF HM HR
      | true => exact back_yes k n v A K ps.length ks.length ac kc k2 n2 v2 A2 K2 ps2.length ks2.length ac2 kc2 w (Tr.mk k n v A ac ps K kc ks).pl (Tr.mk k2 n2 v2 A2 ac2 ps2 K2 kc2 ks2).pl hT hr hbk hbu (of_decide_eq_true hf) (of_decide_eq_true hm) HW HF HM HR HC1 HC2 HSM
end Go.Proofs.YtcmlfkoeajpliaaDoor
