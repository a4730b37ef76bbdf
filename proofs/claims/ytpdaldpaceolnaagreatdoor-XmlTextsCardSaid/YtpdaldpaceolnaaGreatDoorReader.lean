/- The reader in plain words; the reader of the program: its small calls, names. No condition beyond what the theorems state. -/
import Derived.Test.YtpdaldpaceolnaaGreatDoorTrees
import Derived.Test.YtpdaldpaceolnaaGreatDoorRefs
import Derived.Lib.IndexAny
import Derived.Shelf.Strings.SlTrimAscii
import Derived.WalkLawsBesides
import Derived.Test.YtpdaldpaceolnaaGreatDoorValid
import Derived.Shelf.Strings.FuncGrows
import Derived.Laws.Cover4
namespace Go.Proofs.YtpdaldpaceolnaaGreatDoor
open Go.RowKit Go.Lib
set_option maxRecDepth 100000
set_option maxHeartbeats 4000000
def linesF (s : List UInt8) : List UInt8 := Lib.replaceAll (Lib.replaceAll s [13, 10] [10]) [13] [10]
def spX : List UInt8 := [9, 10, 32]
def trimX (l : List UInt8) : List UInt8 := Lib.trimLeftS l spX
/-- What is left behind a sign, if it stands first. -/
def stripX (p l : List UInt8) : Option (List UInt8) := if Lib.hasPrefix l p = true then some (l.drop p.length) else none
/-- Cut at a place; where the place is below 0, at the end. -/
def cutX (l : List UInt8) (k : Int) : List UInt8 × List UInt8 := if k < 0 then (l, []) else (l.take k.toNat, l.drop k.toNat)
/-- Does a character end a name? -/
def noName (c : Nat) : Bool := !nameX ((⟨#[95]⟩ ++ Utf8.encode (c : Int) : ByteArray).data.toList)
def nameL (l : List UInt8) : Option (List UInt8 × List UInt8) :=
  if nameX (cutX l (Lib.idxFunc noName true (ba' l))).1 = true then some (cutX l (Lib.idxFunc noName true (ba' l))) else none
def upL (p l : List UInt8) : Option (List UInt8 × List UInt8) := if (Lib.cut l p).2.2 = true then some ((Lib.cut l p).1, (Lib.cut l p).2.1) else none
/-- The rest of a comment. -/
def commentL (l : List UInt8) : Option (List UInt8 × List UInt8) := match upL [45, 45] l with
  | none => none
  | some (v, r) => match stripX [62] r with
    | none => none
    | some r2 => some (v, r2)
def blanksL (s : List UInt8) : List UInt8 := Lib.replaceAll (Lib.replaceAll s [9] [32]) [10] [32]
def valueGo (q : UInt8) : Nat → List UInt8 → List UInt8 → Option (List UInt8 × List UInt8)
  | 0, _, _ => none
  | f + 1, l, acc => match stripX [q] l with
    | some r => some (acc, r)
    | none => match stripX [38] l with
      | some r => (match cutF r with
        | none => none
        | some (m, rest) => valueGo q f rest (acc ++ m))
      | none => if l = [] ∨ Lib.hasPrefix l [60] = true then none else valueGo q f (cutX l (Lib.indexAny l [60, 38, q])).2 (acc ++ blanksL (cutX l (Lib.indexAny l [60, 38, q])).1)
/-- A value in its quotes. -/
def valueL (l : List UInt8) : Option (List UInt8 × List UInt8) := match stripX [34] l with
  | some r => valueGo 34 (r.length + 1) r []
  | none => match stripX [39] l with
    | some r => valueGo 39 (r.length + 1) r []
    | none => none
def attrsGo : Nat → List UInt8 → List (List UInt8 × List UInt8) → Option (List (List UInt8 × List UInt8) × List UInt8)
  | 0, _, _ => none
  | f + 1, l, acc => if (trimX l).length < l.length ∧ ¬ Lib.hasPrefix (trimX l) [47, 62] = true ∧ ¬ Lib.hasPrefix (trimX l) [62] = true then
      (match nameL (trimX l) with
      | none => none
      | some (n, r) => if n ∈ acc.map Prod.fst then none else match stripX [61] (trimX r) with
        | none => none
        | some r2 => match valueL (trimX r2) with
          | none => none
          | some (v, r3) => attrsGo f r3 (acc ++ [(n, v)]))
    else some (acc, trimX l)
def cdataB : List UInt8 := [60, 33, 91, 67, 68, 65, 84, 65, 91]
def textGo : Nat → List UInt8 → List UInt8 → Option (List UInt8 × List UInt8)
  | 0, _, _ => none
  | f + 1, l, acc => match stripX cdataB l with
    | some r => (match upL [93, 93, 62] r with
      | none => none
      | some (v, rest) => textGo f rest (acc ++ v))
    | none => match stripX [38] l with
      | some r => (match cutF r with
        | none => none
        | some (m, rest) => textGo f rest (acc ++ m))
      | none => if l = [] ∨ Lib.hasPrefix l [60] = true then some (acc, l) else
          if Lib.contains (cutX l (Lib.indexAny l [60, 38])).1 [93, 93, 62] = true then none
          else textGo f (cutX l (Lib.indexAny l [60, 38])).2 (acc ++ (cutX l (Lib.indexAny l [60, 38])).1)
/-- The Text that characters come to, or none. -/
def textK (a : List UInt8) : List PT := if a = [] then [] else [.mk 4 [] a [] []]
def textL (l : List UInt8) : Option (List PT × List UInt8) := (textGo (l.length + 1) l []).map fun x => (textK x.1, x.2)
/-- What a reader comes to: something and what is left, or one of two errors. -/
inductive XR (α : Type) where
  | ok (a : α) (l : List UInt8)
  | bad
  | nest
mutual
def elemGo : Nat → Nat → List UInt8 → XR PT
  | 0, _, _ => .bad
  | f + 1, o, l => match stripX [60] l with
    | none => .bad
    | some r => match nameL r with
      | none => .bad
      | some (n, r1) => if 62 < o then .nest else match attrsGo (r1.length + 1) r1 [] with
        | none => .bad
        | some (ps, r2) => match stripX [47, 62] r2 with
          | some r3 => .ok (.mk 2 n [] ps []) r3
          | none => match stripX [62] r2 with
            | none => .bad
            | some r3 => match textL r3 with
              | none => .bad
              | some (ks, r4) => match kidsGo f (o + 1) r4 ks with
                | .bad => .bad
                | .nest => .nest
                | .ok ks r5 => match stripX (60 :: 47 :: n) r5 with
                  | none => .bad
                  | some r6 => match stripX [62] (trimX r6) with
                    | none => .bad
                    | some r7 => .ok (.mk 2 n [] ps ks) r7
def kidsGo : Nat → Nat → List UInt8 → List PT → XR (List PT)
  | 0, _, _, _ => .bad
  | f + 1, o, l, acc => if Lib.hasPrefix l [60, 47] = true then .ok acc l else match stripX [60, 33, 45, 45] l with
    | some r => (match commentL r with
      | none => .bad
      | some (v, r2) => match textL r2 with
        | none => .bad
        | some (ks, r3) => kidsGo f o r3 (acc ++ [.mk 5 [] v [] []] ++ ks))
    | none => match elemGo f o l with
      | .bad => .bad
      | .nest => .nest
      | .ok t r2 => match textL r2 with
        | none => .bad
        | some (ks, r3) => kidsGo f o r3 (acc ++ [t] ++ ks)
end
def outGo : Nat → List UInt8 → List PT → Option (List PT × List UInt8)
  | 0, _, _ => none
  | f + 1, l, acc => match stripX [60, 33, 45, 45] (trimX l) with
    | none => some (acc, trimX l)
    | some r => match commentL r with
      | none => none
      | some (v, r2) => outGo f r2 (acc ++ [.mk 5 [] v [] []])
def outL (l : List UInt8) : Option (List PT × List UInt8) := outGo (l.length + 1) l []
/-- A whole document. -/
def docF (l : List UInt8) : XR PT := match outL l with
  | none => .bad
  | some (a, r) => match elemGo (2 * r.length + 2) 0 r with
    | .bad => .bad
    | .nest => .nest
    | .ok t r2 => match outL r2 with
      | none => .bad
      | some (b, r3) => if r3 = [] then .ok (.mk 1 [] [] [] (a ++ [t] ++ b)) [] else .bad
/-- What Parse answers: an error's number, or a tree. -/
def xmlF (s : List UInt8) : Int × Option PT := if 1048576 < s.length then (11, none) else if validX s = false then (61, none) else match docF (linesF s) with
  | .bad => (61, none)
  | .nest => (15, none)
  | .ok t _ => (0, some t)
end Go.Proofs.YtpdaldpaceolnaaGreatDoor
namespace Go.Proofs.YtpdaldpaceolnaaGreatDoor
open Go.RowKit Go.Lib
set_option maxRecDepth 100000
set_option maxHeartbeats 4000000
/-- A reader that lies in a block has this left. -/
def At (w : World) (b : Nat) (l : List UInt8) : Prop := w.cell? ⟨b, 0, none⟩ = some (.string (ba' l)) ∧ w.frozen? ⟨b, 0, none⟩ = false ∧ b < w.heap.size
/-- The reader has this left, and nothing else has turned; there may be new memory. -/
structure Mv (b : Nat) (l : List UInt8) (w w' : World) : Prop where
  low : Below b w w'
  block : ∀ k, k < w.heap.size → k ≠ b → w'.heap[k]? = w.heap[k]?
  grow : w.heap.size ≤ w'.heap.size
  here : At w' b l
theorem At.below {w w' : World} {b : Nat} {l : List UInt8} (h : At w b l) (hb : Below w.heap.size w w') : At w' b l :=
  ⟨(hb.cell (p := ⟨b, 0, none⟩) h.2.2).trans h.1, (hb.frozen (p := ⟨b, 0, none⟩) h.2.2).trans h.2.1, zz hb h.2.2⟩
theorem Mv.of_below {w w' : World} {b : Nat} {l : List UInt8} (h : At w b l) (hb : Below w.heap.size w w') : Mv b l w w' :=
  ⟨hb.mono (by have := h.2.2; omega), fun k hk _ => hb.block k hk, hb.size, h.below hb⟩
theorem Mv.refl {w : World} {b : Nat} {l : List UInt8} (h : At w b l) : Mv b l w w := Mv.of_below h (Below.refl _ _)
theorem Mv.trans {w w1 w2 : World} {b : Nat} {l1 l2 : List UInt8} (h1 : Mv b l1 w w1) (h2 : Mv b l2 w1 w2) : Mv b l2 w w2 :=
  ⟨h1.low.trans h2.low, fun k hk hne => (h2.block k (Nat.lt_of_lt_of_le hk h1.grow) hne).trans (h1.block k hk hne), Nat.le_trans h1.grow h2.grow, h2.here⟩
theorem Mv.below {w w1 w2 : World} {b : Nat} {l : List UInt8} (h1 : Mv b l w w1) (h2 : Below w1.heap.size w1 w2) : Mv b l w w2 := h1.trans (Mv.of_below h1.here h2)
theorem Mv.set {w : World} {b : Nat} {l l' : List UInt8} (h : At w b l) : Mv b l' w (w.setCell ⟨b, 0, none⟩ (.string (ba' l'))) := by
  obtain ⟨h0, h1, h2⟩ := h
  refine ⟨Below.setCell (p := ⟨b, 0, none⟩) (Below.refl b w) (Nat.le_refl b) _, fun k _ hne => Below.heap_setCell w _ _ k hne, by simp, by simp [go_sem, *], by simp [go_sem, *], by simpa using h2⟩
theorem Mv.cell {w w' : World} {b : Nat} {l : List UInt8} (h : Mv b l w w') {p : Addr} (hp : p.block < w.heap.size) (hne : p.block ≠ b) : w'.cell? p = w.cell? p := World.cell?_of_block (h.block _ hp hne)
theorem Mv.frozen {w w' : World} {b : Nat} {l : List UInt8} (h : Mv b l w w') {p : Addr} (hp : p.block < w.heap.size) (hne : p.block ≠ b) : w'.frozen? p = w.frozen? p := World.frozen?_of_block (h.block _ hp hne)
/-- What lay below the reader is as it was. -/
theorem Mv.old {w w' : World} {b n : Nat} {l : List UInt8} (h : Mv b l w w') (hn : n ≤ b) : Below n w w' := h.low.mono hn
theorem Mv.own {w w' : World} {b : Nat} {l : List UInt8} (h : Mv b l w w') {base : Nat} {e : TypeId} {size n : Nat} {v : Value} {xs : List Value} (ho : w.ownsRow base e size v n xs) (hb : b < base) : w'.ownsRow base e size v n xs :=
  own_keep ho fun k hk => by
    obtain ⟨h1, h2⟩ := own_lt ho hk
    exact h.block k h2 (by omega)
end Go.Proofs.YtpdaldpaceolnaaGreatDoor
namespace Go.Proofs.YtpdaldpaceolnaaGreatDoor
open Go.RowKit Go.Lib
set_option maxRecDepth 100000
set_option maxHeartbeats 8000000
/-- It gives up with an error's number. -/
abbrev GU (n : Int) : Ending := .panicked [{ v := .iface 43 (.agg #[.int .i64 n]), recovered := false }]
theorem fail_any (p : Value) (w : World) : Calls Tryz.prog 32 #[p] w fun e w' => e = GU 61 ∧ w' = w := by
  go_enter Tryz.func32, Tryz.ntmps32
  go_wp2
  exact ⟨rfl, rfl, rfl⟩
theorem trim_strip (p l : List UInt8) : Lib.trimPrefix l p = (match stripX p l with | some r => r | none => l) := by
  unfold Lib.trimPrefix stripX
  cases Lib.hasPrefix l p <;> rfl
theorem strip_has (p l : List UInt8) : Lib.hasPrefix l p = (stripX p l).isSome := by
  unfold stripX
  cases Lib.hasPrefix l p <;> rfl
theorem ahead_any (b : Nat) (l p : List UInt8) (w : World) (h : At w b l) : Calls Tryz.prog 72 #[.pointer (some ⟨b, 0, none⟩), .string (ba' p)] w fun e w' => e = .returned (.bool (Lib.hasPrefix l p)) ∧ w' = w := by
  obtain ⟨h0, h1, h2⟩ := h
  have HC := Lib.hid (Tryz.strings_HasPrefix (ba' l) (ba' p) w)
  go_enter Tryz.func72, Tryz.ntmps72
  go_wp2_with fail
  refine HC.out.mono ?_
  rintro e w1 ⟨rfl, rfl⟩
  go_wp2
  go_ret
  exact ⟨rfl, rfl⟩
def TkPost (b : Nat) (p l : List UInt8) (w : World) (e : Ending) (w' : World) : Prop := match stripX p l with
  | some r => e = .returned (.bool true) ∧ Mv b r w w'
  | none => e = .returned (.bool false) ∧ Mv b l w w'
theorem take_any (b : Nat) (l p : List UInt8) (w : World) (h : At w b l) : Calls Tryz.prog 47 #[.pointer (some ⟨b, 0, none⟩), .string (ba' p)] w (TkPost b p l w) := by
  have HA := Lib.hid h
  obtain ⟨h0, h1, h2⟩ := h
  have hc := Tryz.strings_CutPrefix (ba' l) (ba' p) w
  obtain ⟨r, hr⟩ : ∃ r, (match stripX p l with | some r => r | none => l) = r := ⟨_, rfl⟩
  obtain ⟨v, hv⟩ : ∃ v, (stripX p l).isSome = v := ⟨_, rfl⟩
  have e1 : Lib.hasPrefix (ba' l).data.toList (ba' p).data.toList = v := (strip_has p l).trans hv
  have e2 : (⟨(Lib.trimPrefix (ba' l).data.toList (ba' p).data.toList).toArray⟩ : ByteArray) = ba' r := by
    have : Lib.trimPrefix (ba' l).data.toList (ba' p).data.toList = r := (trim_strip p l).trans hr
    rw [this]
    rfl
  rw [e1, e2] at hc
  have HC := Lib.hid hc
  have HP : Hid (∀ w', Mv b r w w' → TkPost b p l w (.returned (.bool v)) w') := Lib.hid fun w' hm => by
    unfold TkPost
    cases hs : stripX p l with
    | none => rw [hs] at hr hv; simp only at hr; subst hr; subst hv; exact ⟨rfl, hm⟩
    | some q => rw [hs] at hr hv; simp only at hr; subst hr; subst hv; exact ⟨rfl, hm⟩
  clear hc hr hv e1 e2
  go_enter Tryz.func47, Tryz.ntmps47
  go_wp2_with fail
  refine HC.out.mono ?_
  rintro e w1 ⟨rfl, rfl⟩
  go_wp2
  go_ret
  exact HP.out _ (Mv.set HA.out)
def NdPost (b : Nat) (p l : List UInt8) (w : World) (e : Ending) (w' : World) : Prop := match stripX p l with
  | some r => e = .returned (.tuple #[]) ∧ Mv b r w w'
  | none => e = GU 61 ∧ Mv b l w w'
theorem need_any (b : Nat) (l p : List UInt8) (w : World) (h : At w b l) : Calls Tryz.prog 49 #[.pointer (some ⟨b, 0, none⟩), .string (ba' p)] w (NdPost b p l w) := by
  have ht := take_any b l p w h
  unfold TkPost at ht
  unfold NdPost
  cases hs : stripX p l with
  | none =>
    rw [hs] at ht
    have HT := Lib.hid ht
    clear ht hs h
    go_enter Tryz.func49, Tryz.ntmps49
    go_wp2_with fail
    refine HT.out.mono ?_
    rintro e w1 ⟨rfl, hm⟩
    have HM := Lib.hid hm
    clear hm
    go_wp2_with fail
    refine (fail_any _ _).mono ?_
    rintro e w2 ⟨rfl, rfl⟩
    go_wp2
    exact ⟨rfl, rfl, HM.out⟩
  | some r =>
    rw [hs] at ht
    have HT := Lib.hid ht
    clear ht hs h
    go_enter Tryz.func49, Tryz.ntmps49
    go_wp2_with fail
    refine HT.out.mono ?_
    rintro e w1 ⟨rfl, hm⟩
    have HM := Lib.hid hm
    clear hm
    go_wp2
    go_end0
    exact ⟨rfl, HM.out⟩
end Go.Proofs.YtpdaldpaceolnaaGreatDoor
namespace Go.Proofs.YtpdaldpaceolnaaGreatDoor
open Go.RowKit Go.Lib
set_option maxRecDepth 100000
set_option maxHeartbeats 8000000
theorem trimL_any (s c : List UInt8) (w : World) (hc : c.length < 4294967281) (ha : ∀ b ∈ c, b.toNat < 128) : Calls Tryz.prog 66 #[.string (ba' s), .string (ba' c)] w fun e w' => e = .returned (.string (ba' (Lib.trimLeftS s c))) ∧ Below w.heap.size w w' :=
  Any.strings_TrimLeft_laid Tryz.lays161 (by kernel_rfl) (ba' s) (ba' c) w (by rw [size_ba]; exact hc) fun j b hb => ha b (List.mem_of_getElem? hb)
theorem trimX_le (l : List UInt8) : (trimX l).length ≤ l.length := by
  unfold trimX Lib.trimLeftS
  exact (List.dropWhile_sublist _).length_le
theorem spaces_any (b : Nat) (l : List UInt8) (w : World) (h : At w b l) : Calls Tryz.prog 46 #[.pointer (some ⟨b, 0, none⟩)] w fun e w' => e = .returned (.bool (decide ((trimX l).length < l.length))) ∧ Mv b (trimX l) w w' := by
  have HA := Lib.hid h
  obtain ⟨h0, h1, h2⟩ := h
  have ht := trimL_any l spX w (by decide) (by decide)
  obtain ⟨r, hr⟩ : ∃ r, trimX l = r := ⟨_, rfl⟩
  rw [show Lib.trimLeftS l spX = r from hr] at ht
  rw [hr]
  have HT : Hid (Calls Tryz.prog 66 #[.string (ba' l), .string ⟨#[9, 10, 32]⟩] w fun e w' => e = .returned (.string (ba' r)) ∧ Below w.heap.size w w') := Lib.hid ht
  have sl : (ba' l).size = l.length := size_ba l
  have sr : (ba' r).size = r.length := size_ba r
  clear ht hr
  go_enter Tryz.func46, Tryz.ntmps46
  go_wp2_with fail
  refine HT.out.mono ?_
  rintro e w1 ⟨rfl, hb⟩
  have HA1 := Lib.hid (HA.out.below hb)
  have HM1 := Lib.hid (Mv.of_below HA.out hb)
  obtain ⟨k0, k1, k2⟩ := HA1.out
  clear hb h0 h1
  go_wp2
  go_ret
  exact ⟨rfl, HM1.out.trans (Mv.set HA1.out)⟩
def UpPost (b : Nat) (p l : List UInt8) (w : World) (e : Ending) (w' : World) : Prop := match upL p l with
  | some (v, r) => e = .returned (.string (ba' v)) ∧ Mv b r w w'
  | none => e = GU 61 ∧ Mv b l w w'
theorem Mv.drawn {w w1 : World} {b n : Nat} {l : List UInt8} (h : Mv b l w w1) : Mv b l w (w1.drewN n) :=
  ⟨⟨h.low.os, h.low.tape, h.low.output, h.low.size, h.low.block⟩, h.block, h.grow, h.here⟩
theorem upTo_any (b : Nat) (l p : List UInt8) (w : World) (h : At w b l) (hl : l.length ≤ 3000000) (v : Int) (hm : w.cell? ⟨2, 0, none⟩ = some (.int .i64 v)) : Calls Tryz.prog 68 #[.pointer (some ⟨b, 0, none⟩), .string (ba' p)] w (UpPost b p l w) := by
  have HA := Lib.hid h
  obtain ⟨h0, h1, h2⟩ := h
  obtain ⟨a, t, c, hc⟩ : ∃ a t c, Lib.cut l p = (a, t, c) := ⟨_, _, _, rfl⟩
  have hc' : Lib.cut (ba' l).data.toList (ba' p).data.toList = (a, t, c) := hc
  have HC := Lib.hid (Tryz.strings_Cut (ba' l) (ba' p) v w (by rw [size_ba]; omega) hm)
  rw [hc'] at HC
  simp only at HC
  have HU : Hid (upL p l = if c = true then some (a, t) else none) := Lib.hid (by unfold upL; rw [hc])
  clear hc hc' hm
  unfold UpPost
  rw [HU.out]
  cases c with
  | false =>
    go_enter Tryz.func68, Tryz.ntmps68
    go_wp2_with fail
    refine HC.out.mono ?_
    rintro e w1 ⟨rfl, n, rfl⟩
    go_wp2_with fail
    refine (fail_any _ _).mono ?_
    rintro e w2 ⟨rfl, rfl⟩
    go_wp2
    exact ⟨rfl, rfl, (Mv.refl HA.out).drawn⟩
  | true =>
    have HA1 : ∀ n, At (w.drewN n) b l := fun n => ⟨h0, h1, h2⟩
    go_enter Tryz.func68, Tryz.ntmps68
    go_wp2_with fail
    refine HC.out.mono ?_
    rintro e w1 ⟨rfl, n, rfl⟩
    have HA2 := Lib.hid (HA1 n)
    obtain ⟨k0, k1, k2⟩ := HA1 n
    clear HA1
    go_wp2
    go_ret
    exact ⟨rfl, ((Mv.refl HA.out).drawn).trans (Mv.set HA2.out)⟩
theorem cut_any (b : Nat) (l : List UInt8) (k : Int) (w : World) (h : At w b l) (_hl : l.length ≤ 3000000) (hk : k ≤ l.length) : Calls Tryz.prog 69 #[.pointer (some ⟨b, 0, none⟩), .int .i64 k] w fun e w' => e = .returned (.string (ba' (cutX l k).1)) ∧ Mv b (cutX l k).2 w w' := by
  have HA := Lib.hid h
  obtain ⟨h0, h1, h2⟩ := h
  have sl : (ba' l).size = l.length := size_ba l
  by_cases h3 : k < 0
  · have g1 : decide (k < 0) = true := by simpa using h3
    have HX1 : Hid ((ba' l).extract 0 l.length = ba' l) := Lib.hid (by rw [cut_mid]; simp)
    unfold cutX
    rw [if_pos h3]
    go_enter Tryz.func69, Tryz.ntmps69
    go_wp2
    rw [HX1.out]
    go_ret
    exact ⟨rfl, Mv.set HA.out⟩
  · obtain ⟨m, rfl⟩ : ∃ m : Nat, k = (m : Int) := ⟨k.toNat, by omega⟩
    have g1 : decide ((m : Int) < 0) = false := by simp
    have HX1 : Hid ((ba' l).extract 0 m = ba' (l.take m)) := Lib.hid (by rw [cut_mid]; simp)
    have HX2 : Hid ((ba' l).extract m l.length = ba' (l.drop m)) := Lib.hid (by rw [← sl, cut_drop])
    have hm : m ≤ l.length := by omega
    unfold cutX
    rw [if_neg h3]
    simp only [Int.toNat_natCast]
    go_enter Tryz.func69, Tryz.ntmps69
    go_wp2
    rw [HX1.out, HX2.out]
    go_ret
    exact ⟨rfl, Mv.set HA.out⟩
def RfPost (b : Nat) (l : List UInt8) (w : World) (e : Ending) (w' : World) : Prop := match cutF l with
  | some (m, r) => e = .returned (.string (ba' m)) ∧ Mv b r w w'
  | none => e = GU 61 ∧ Mv b l w w'
theorem reference_any (b : Nat) (l : List UInt8) (w : World) (h : At w b l) (hl : l.length ≤ 100000) (hE : Env w) : Calls Tryz.prog 91 #[.pointer (some ⟨b, 0, none⟩)] w (RfPost b l w) := by
  have HA := Lib.hid h
  obtain ⟨h0, h1, h2⟩ := h
  have hc := cutF_any l hl w hE
  unfold RfPost
  clear hE
  cases hcf : cutF l with
  | none =>
    rw [hcf] at hc
    have HC : Hid (Calls Tryz.prog 106 #[.string (ba' l)] w fun e w' => e = .returned (.tuple #[.string ⟨#[]⟩, .string ⟨#[]⟩, .bool false]) ∧ Below w.heap.size w w') := Lib.hid hc
    clear hc hcf
    go_enter Tryz.func91, Tryz.ntmps91
    go_wp2_with fail
    refine HC.out.mono ?_
    rintro e w1 ⟨rfl, hb⟩
    have HM1 := Lib.hid (Mv.of_below HA.out hb)
    clear hb h0 h1
    go_wp2_with fail
    refine (fail_any _ _).mono ?_
    rintro e w2 ⟨rfl, rfl⟩
    go_wp2
    exact ⟨rfl, rfl, HM1.out⟩
  | some x =>
    obtain ⟨m, r⟩ := x
    rw [hcf] at hc
    have HC : Hid (Calls Tryz.prog 106 #[.string (ba' l)] w fun e w' => e = .returned (.tuple #[.string (ba' m), .string (ba' r), .bool true]) ∧ Below w.heap.size w w') := Lib.hid hc
    clear hc hcf
    go_enter Tryz.func91, Tryz.ntmps91
    go_wp2_with fail
    refine HC.out.mono ?_
    rintro e w1 ⟨rfl, hb⟩
    have HA1 := Lib.hid (HA.out.below hb)
    have HM1 := Lib.hid (Mv.of_below HA.out hb)
    obtain ⟨k0, k1, k2⟩ := HA1.out
    clear hb h0 h1
    go_wp2
    go_ret
    exact ⟨rfl, HM1.out.trans (Mv.set HA1.out)⟩
end Go.Proofs.YtpdaldpaceolnaaGreatDoor
namespace Go.Proofs.YtpdaldpaceolnaaGreatDoor
open Go.RowKit Go.Lib
set_option maxRecDepth 100000
set_option maxHeartbeats 8000000
theorem tabs_mv {w w' : World} {b : Nat} {l : List UInt8} (h : tabs w) (hm : Mv b l w w') (hb : 2 ≤ b) : tabs w' :=
  ⟨fun c hc => (hm.cell (World.block_lt_of_cell? w _ (h.1 c hc)) (by show (0 : Nat) ≠ b; omega)).trans (h.1 c hc), fun i hi =>
    ⟨(hm.cell (World.block_lt_of_cell? w _ (h.2 i hi).1) (by show (1 : Nat) ≠ b; omega)).trans (h.2 i hi).1, (hm.cell (World.block_lt_of_cell? w _ (h.2 i hi).2) (by show (1 : Nat) ≠ b; omega)).trans (h.2 i hi).2⟩⟩
theorem Env.mv {w w' : World} {b : Nat} {l : List UInt8} (h : Env w) (hm : Mv b l w w') (hb : 5 ≤ b) : Env w' := by
  obtain ⟨h1, ⟨v2, h2⟩, ⟨v3, h3, i3⟩, ⟨v4, h4, i4⟩⟩ := h
  exact ⟨tabs_mv h1 hm (by omega), ⟨v2, (hm.cell (World.block_lt_of_cell? w _ h2) (by show (2 : Nat) ≠ b; omega)).trans h2⟩, ⟨v3, (hm.cell (World.block_lt_of_cell? w _ h3) (by show (3 : Nat) ≠ b; omega)).trans h3, i3⟩, ⟨v4, (hm.cell (World.block_lt_of_cell? w _ h4) (by show (4 : Nat) ≠ b; omega)).trans h4, i4⟩⟩
theorem encode_le (r : Int) : (Utf8.encode r).size ≤ 4 := by
  first | exact encode_size_le _ | exact Lib.encode_size_le _
theorem noName_any (x : Nat) (w : World) (hT : tabs w) : Calls Tryz.prog 71 #[.int .i32 (x : Int)] w fun e w' => e = .returned (.bool (noName x)) ∧ Below w.heap.size w w' := by
  have hez : (Utf8.encode (x : Int)).size ≤ 4 := encode_le _
  have r1 : ¬ (9223372036854775807 < 1 + (Utf8.encode (x : Int)).size) := by omega
  have hn := name_any (⟨#[95]⟩ ++ Utf8.encode (x : Int)) w (by rw [ByteArray.size_append]; show 1 + _ ≤ _; unfold maxLen; omega) hT
  unfold noName
  obtain ⟨v, hv⟩ : ∃ v, nameX ((⟨#[95]⟩ ++ Utf8.encode (x : Int) : ByteArray).data.toList) = v := ⟨_, rfl⟩
  rw [hv] at hn ⊢
  have HN := Lib.hid hn
  clear hn hv
  go_enter Tryz.func71, Tryz.ntmps71
  go_wp2_with fail
  refine HN.out.mono ?_
  rintro e w1 ⟨rfl, hb⟩
  have HB := Lib.hid hb
  clear hb
  go_wp2
  go_ret
  exact ⟨rfl, HB.out⟩
theorem idxName_any (l : List UInt8) (w : World) (hT : tabs w) : Calls Tryz.prog 70 #[.string (ba' l), .func (.func 71) #[] #[]] w fun e w' => e = .returned (.int .i64 (Lib.idxFunc noName true (ba' l))) ∧ Below w.heap.size w w' := by
  have hI := Any.strings_indexFunc_grows Tryz.lays315 71 #[] (fun args w => by rfl) noName true (ba' l) w (fun W x hx hb => noName_any x W (Utf8Tabs_below hT hb))
  have HI : Hid (Calls Tryz.prog 89 #[.string (ba' l), .func (.func 71) #[] #[], .bool true] w fun e w' => e = .returned (.int .i64 (Lib.idxFunc noName true (ba' l))) ∧ Below w.heap.size w w') := Lib.hid hI
  clear hI
  go_enter Tryz.func70, Tryz.ntmps70
  go_wp2_with fail
  refine HI.out.mono ?_
  rintro e w1 ⟨rfl, hb⟩
  have HB := Lib.hid hb
  clear hb
  go_wp2
  go_ret
  exact ⟨rfl, HB.out⟩
def NmPost (b : Nat) (l : List UInt8) (w : World) (e : Ending) (w' : World) : Prop := match nameL l with
  | some (n, r) => e = .returned (.string (ba' n)) ∧ Mv b r w w'
  | none => e = GU 61 ∧ ∃ l', Mv b l' w w'
theorem rname_any (b : Nat) (l : List UInt8) (w : World) (h : At w b l) (hl : l.length ≤ 3000000) (hT : tabs w) (hb2 : 2 ≤ b) : Calls Tryz.prog 50 #[.pointer (some ⟨b, 0, none⟩)] w (NmPost b l w) := by
  have HA := Lib.hid h
  obtain ⟨h0, h1, h2⟩ := h
  have hr := Lib.idxFunc_range noName true (ba' l)
  rw [size_ba] at hr
  have HI := Lib.hid (idxName_any l w hT)
  have HT := Lib.hid hT
  obtain ⟨k, hk⟩ : ∃ k, Lib.idxFunc noName true (ba' l) = k := ⟨_, rfl⟩
  have HU : Hid (nameL l = if nameX (cutX l k).1 = true then some (cutX l k) else none) := Lib.hid (by unfold nameL; rw [hk])
  rw [hk] at HI hr
  have hkl : k ≤ l.length := by rcases hr with h | h <;> omega
  clear hr hk hT
  obtain ⟨n, r, hc⟩ : ∃ n r, cutX l k = (n, r) := ⟨_, _, rfl⟩
  have hnl : n.length ≤ l.length := by
    have := congrArg Prod.fst hc
    simp only at this
    rw [← this]
    unfold cutX
    split
    · exact Nat.le_refl _
    · simp only [List.length_take]; omega
  rw [hc] at HU
  unfold NmPost
  rw [HU.out]
  have HC : Hid (∀ W, At W b l → Calls Tryz.prog 69 #[.pointer (some ⟨b, 0, none⟩), .int .i64 k] W fun e w' => e = .returned (.string (ba' n)) ∧ Mv b r W w') := Lib.hid fun W hW => by
    have h := cut_any b l k W hW hl hkl
    rwa [hc] at h
  clear hc hkl HU
  obtain ⟨v, hv⟩ : ∃ v, nameX n = v := ⟨_, rfl⟩
  rw [hv]
  have HN : Hid (∀ W, tabs W → Calls Tryz.prog 40 #[.string (ba' n)] W fun e w' => e = .returned (.bool v) ∧ Below W.heap.size W w') := Lib.hid fun W hW => by
    have h := name_any (ba' n) W (by rw [size_ba]; unfold maxLen; omega) hW
    rwa [show nameX (ba' n).data.toList = v from hv] at h
  clear hv hnl
  cases v with
  | false =>
    go_enter Tryz.func50, Tryz.ntmps50
    go_wp2_with fail
    refine HI.out.mono ?_
    rintro e w1 ⟨rfl, hb⟩
    have HA1 := Lib.hid (HA.out.below hb)
    have HM1 := Lib.hid (Mv.of_below HA.out hb)
    clear hb h0 h1
    go_wp2_with fail
    refine (HC.out _ HA1.out).mono ?_
    rintro e w2 ⟨rfl, hm⟩
    have HM2 := Lib.hid (HM1.out.trans hm)
    clear hm
    go_wp2_with fail
    refine (HN.out _ (tabs_mv HT.out HM2.out hb2)).mono ?_
    rintro e w3 ⟨rfl, hb⟩
    have HM3 := Lib.hid (HM2.out.below hb)
    clear hb
    go_wp2_with fail
    refine (fail_any _ _).mono ?_
    rintro e w4 ⟨rfl, rfl⟩
    go_wp2
    exact ⟨rfl, rfl, _, HM3.out⟩
  | true =>
    go_enter Tryz.func50, Tryz.ntmps50
    go_wp2_with fail
    refine HI.out.mono ?_
    rintro e w1 ⟨rfl, hb⟩
    have HA1 := Lib.hid (HA.out.below hb)
    have HM1 := Lib.hid (Mv.of_below HA.out hb)
    clear hb h0 h1
    go_wp2_with fail
    refine (HC.out _ HA1.out).mono ?_
    rintro e w2 ⟨rfl, hm⟩
    have HM2 := Lib.hid (HM1.out.trans hm)
    clear hm
    go_wp2_with fail
    refine (HN.out _ (tabs_mv HT.out HM2.out hb2)).mono ?_
    rintro e w3 ⟨rfl, hb⟩
    have HM3 := Lib.hid (HM2.out.below hb)
    clear hb
    go_wp2
    go_ret
    exact ⟨rfl, HM3.out⟩
end Go.Proofs.YtpdaldpaceolnaaGreatDoor
