/- Package dec reads and writes numbers. No condition beyond what the theorems state. -/
import Derived.Test.YtemgabmafmehnaaGreatDoorShelf
import Derived.Lib.AppendIntMem
import Derived.Lib.Hide
import Derived.Below
import Derived.Deep.Draws
import Derived.WalkKit
import Derived.Test.YtemgabmafmehnaaGreatDoorDeSums
import Derived.BigQuiet
import Derived.Deep.QuietTactic
namespace Go.Proofs
open Go.Shelf Go.RowKit Go.Sort

theorem below_set_grow (w : World) (os : Array Obj) : Below w.heap.size w (grow w os) := by
  refine ⟨rfl, rfl, rfl, ?_, fun k hk => ?_⟩
  · simp [grow]
  · simp [grow, Array.getElem?_append_left hk]
theorem below_num (w : World) (o : Obj) (dk : Array UInt8) (k : Nat) : Below w.heap.size w ((putRow (fun (b : UInt8) => Value.int .u8 (b.toNat : Int)) (w.alloc o) w.heap.size 0 dk).drewN k) := by
  rw [alloc_eq_grow]
  obtain ⟨os', _, e⟩ := putRow_grow_new (fun (b : UInt8) => Value.int .u8 (b.toNat : Int)) w #[o] w.heap.size 0 dk (Nat.le_refl _)
  rw [e]
  have h := below_set_grow w os'
  exact ⟨h.os, h.tape, h.output, h.size, h.block⟩
theorem fu_small_in (u : Nat) (hu : u < 100) (w : World) : Calls Tryz.prog 98 #[.int .u64 u, .int .i64 10] w fun e w' => e = .returned (.string ⟨(Lib.decDigits u).toArray⟩) ∧ w = w' := by
  have hu1 : (u : Int) < 100 := by omega
  have hw : IntKind.i64.wrap (u : Int) = (u : Int) := by rw [IntKind.wrap_i64]; omega
  go_enter Tryz.func98, Tryz.ntmps98
  go_wp2_with (go_at_call 119; refine (Tryz.internal_strconv_small u hu _).mono ?_; rintro e w' ⟨rfl, rfl⟩)
  go_ret
  exact ⟨rfl, rfl⟩
theorem fu_small (u : Nat) (hu : u < 100) (w : World) : Calls Tryz.prog 71 #[.int .u64 u, .int .i64 10] w fun e w' => e = .returned (.string ⟨(Lib.decDigits u).toArray⟩) ∧ w = w' := by
  go_enter Tryz.func71, Tryz.ntmps71
  go_wp2_with (go_at_call 98; refine (fu_small_in u hu _).mono ?_; rintro e w' ⟨rfl, rfl⟩)
  go_ret
  exact ⟨rfl, rfl⟩
set_option maxRecDepth 100000 in
set_option maxHeartbeats 2000000 in
theorem fu_great (u : Nat) (hu1 : 100 ≤ u) (hu64 : u < 18446744073709551616) (w : World) (htab : Lib.TabIs Tryz.prog w "internal/strconv.uint64pow10" .u64 Lib.pow10Tab) :
    Calls Tryz.prog 98 #[.int .u64 u, .int .i64 10] w fun e w' => e = .returned (.string ⟨(Lib.decDigits u).toArray⟩) ∧ Below w.heap.size w w' := by
  have hn : ¬ (u : Int) < 100 := by omega
  have hnd20 : Lib.nDigits u ≤ 20 := by have := Lib.numDigits_eq u (by omega) hu64; split at this <;> omega
  have hsl1 : ∀ W, (Instr.sliceAt 149 (.pointer (some ⟨w.heap.size, 0, none⟩)) none (some (.int .i64 (Lib.nDigits u : Int))) none).run Tryz.prog W = .ok (.slice (some ⟨w.heap.size, 0, none⟩) (Lib.nDigits u) 24) W := fun W => by
    rw [run_sliceAt_array_h W 149 ⟨w.heap.size, 0, none⟩ (by kernel_rfl) .i64 (Lib.nDigits u : Int) (by omega) (by rw [show Tryz.prog.arrayLen 149 = 24 by kernel_rfl]; omega)]
    rw [show Tryz.prog.arrayLen 149 = 24 by kernel_rfl]
    rfl
  have hH0 := Lib.holds_zero0 w 149 (Lib.nDigits u) (by omega)
  have hfmt := Tryz.internal_strconv_formatBase10 w.heap.size 0 24 u (Array.replicate (Lib.nDigits u) 0) (w.alloc (.cells Lib.zeros24 149)) hH0 (by rw [Array.size_replicate]; exact Lib.lt_pow_nDigits u) hu64 (by rw [Array.size_replicate]; omega)
  rw [Array.size_replicate] at hfmt
  have HH0 := Lib.hid hH0
  clear hH0
  go_enter Tryz.func98, Tryz.ntmps98
  go_wp2_with (first
    | (go_at_call 120; refine (Tryz.internal_strconv_numDigits u (by omega) hu64 _ (Lib.tabIs_alloc htab _)).mono ?_; rintro e w' ⟨rfl, rfl⟩))
  go_at_call 121
  refine hfmt.mono ?_
  rintro e w' ⟨rfl, k, v', dk, rfl, hF⟩
  have hcv : (convert 125 9 (.slice (some ⟨w.heap.size, 0, none⟩) (Lib.nDigits u) 24)).run Tryz.prog ((putRow (fun (b : UInt8) => Value.int .u8 (b.toNat : Int)) (w.alloc (.cells Lib.zeros24 149)) w.heap.size 0 dk).drewN k) = .ok (.string ⟨(Lib.decDigits u).toArray⟩) ((putRow (fun (b : UInt8) => Value.int .u8 (b.toNat : Int)) (w.alloc (.cells Lib.zeros24 149)) w.heap.size 0 dk).drewN k) := by
    have h := run_convert_bytes_back (P := Tryz.prog) ((putRow (fun (b : UInt8) => Value.int .u8 (b.toNat : Int)) (w.alloc (.cells Lib.zeros24 149)) w.heap.size 0 dk).drewN k) 125 9 5 ⟨w.heap.size, 0, none⟩ 24 (Lib.decDigits u) (by kernel_rfl) (by kernel_rfl) (by kernel_rfl) (fun j hj => by
      rw [Lib.row_is_numeral hF j hj, Lib.add_plain, World.cell?_drewN]
      exact cell?_putRow (fun (b : UInt8) => Value.int .u8 (b.toNat : Int)) _ w.heap.size 0 _ dk HH0.out (by rw [hF.size, Array.size_replicate]) j (by rw [hF.size]; rw [Lib.decDigits_length] at hj; exact hj))
    rw [Lib.decDigits_length] at h
    exact h
  go_wp2
  go_ret
  exact ⟨rfl, below_num w _ dk k⟩
theorem fu_any (u : Nat) (hu64 : u < 18446744073709551616) (w : World) (htab : Lib.TabIs Tryz.prog w "internal/strconv.uint64pow10" .u64 Lib.pow10Tab) :
    Calls Tryz.prog 71 #[.int .u64 u, .int .i64 10] w fun e w' => e = .returned (.string ⟨(Lib.decDigits u).toArray⟩) ∧ Below w.heap.size w w' := by
  by_cases h : u < 100
  · exact (fu_small u h w).mono fun e w' ⟨a, b⟩ => ⟨a, b ▸ Below.refl _ _⟩
  · go_enter Tryz.func71, Tryz.ntmps71
    go_wp2_with (go_at_call 98; refine (fu_great u (by omega) hu64 _ htab).mono ?_; rintro e w' ⟨rfl, hb⟩)
    go_ret
    exact ⟨rfl, hb⟩
end Go.Proofs
namespace Go.Proofs
open Go.Shelf Go.RowKit Go.Proofs.Wide

def ba' (l : List UInt8) : ByteArray := ⟨l.toArray⟩
def isD (c : UInt8) : Bool := decide (48 ≤ c.toNat ∧ c.toNat ≤ 57)
theorem digs_contains (c : UInt8) : ([48, 49, 50, 51, 52, 53, 54, 55, 56, 57] : List UInt8).contains c = isD c := by
  have h : ∀ n : Fin 256, ([48, 49, 50, 51, 52, 53, 54, 55, 56, 57] : List UInt8).contains (UInt8.ofNat n.val) = isD (UInt8.ofNat n.val) := by decide +kernel
  have := h ⟨c.toNat, c.toNat_lt⟩
  simpa using this
theorem trimLeft_digits (l : List UInt8) (w : World) : Calls Tryz.prog 130 #[.string (ba' l), .string ⟨#[48, 49, 50, 51, 52, 53, 54, 55, 56, 57]⟩] w fun e w' => e = .returned (.string (ba' (l.dropWhile isD))) ∧ Below w.heap.size w w' := by
  have := Any.strings_TrimLeft_laid Tryz.lays161 (by kernel_rfl) (ba' l) ⟨#[48, 49, 50, 51, 52, 53, 54, 55, 56, 57]⟩ w (by decide) (ascii_of_all (by decide))
  have e : Lib.trimLeftS (ba' l).data.toList ([48, 49, 50, 51, 52, 53, 54, 55, 56, 57] : List UInt8) = l.dropWhile isD := by
    unfold Lib.trimLeftS ba'
    dsimp only
    congr 1
    funext c
    exact digs_contains c
  simp only [] at this
  rw [e] at this
  exact this
theorem trimLeft_noughts (l : List UInt8) (w : World) : Calls Tryz.prog 130 #[.string (ba' l), .string ⟨#[48]⟩] w fun e w' => e = .returned (.string (ba' (l.dropWhile (· == 48)))) ∧ Below w.heap.size w w' := by
  have := Any.strings_TrimLeft_laid Tryz.lays161 (by kernel_rfl) (ba' l) ⟨#[48]⟩ w (by decide) (ascii_of_all (by decide))
  have e : Lib.trimLeftS (ba' l).data.toList ([48] : List UInt8) = l.dropWhile (· == 48) := by
    unfold Lib.trimLeftS ba'
    dsimp only
    congr 1
    funext c
    show (c == 48 || false) = (c == 48)
    exact Bool.or_false _
  simp only [] at this
  rw [e] at this
  exact this
def signL (l : List UInt8) : List UInt8 × Bool := if l.head? = some 45 then (l.tail, true) else if l.head? = some 43 then (l.tail, false) else (l, false)
theorem hasPrefix_one (l : List UInt8) (c : UInt8) (w : World) : Calls Tryz.prog 100 #[.string (ba' l), .string ⟨#[c]⟩] w fun e w' => e = .returned (.bool (decide (l.head? = some c))) ∧ w = w' := by
  refine (Tryz.strings_HasPrefix (ba' l) ⟨#[c]⟩ w).mono fun e w' ⟨a, b⟩ => ⟨?_, b.symm⟩
  rw [a]
  congr 2
  unfold ba' Lib.hasPrefix
  cases l with
  | nil => rfl
  | cons x t =>
    show (c == x && true) = decide (some x = some c)
    rw [Bool.and_true]
    by_cases h : c = x
    · subst h; simp
    · have h' : ¬ x = c := fun e => h e.symm
      simp [h, h']
theorem size_ba (l : List UInt8) : (ba' l).size = l.length := by unfold ba'; exact List.size_toArray
theorem extract_ba (l : List UInt8) (i j : Nat) : (ba' l).extract i j = ba' ((l.take j).drop i) := by
  apply ByteArray.ext
  unfold ba'
  rw [ByteArray.data_extract]
  apply Array.toList_inj.1
  rw [Array.toList_extract]
  show ((l.toArray.toList.drop i).take (j - i)) = _
  rw [List.drop_take]
theorem ret_sb {a b : ByteArray} {c : Bool} (h : a = b) : Ending.returned (.tuple #[.string a, .bool c]) = .returned (.tuple #[.string b, .bool c]) := by rw [h]
theorem sign_any (l : List UInt8) (hl : l.length ≤ 2000000) (w : World) : Calls Tryz.prog 128 #[.string (ba' l)] w fun e w' => e = .returned (.tuple #[.string (ba' (signL l).1), .bool (signL l).2]) ∧ w = w' := by
  have hs := size_ba l
  by_cases h : l.head? = some 45
  · have H := fun w => hasPrefix_one l 45 w
    rw [show decide (l.head? = some 45) = true by simpa using h] at H
    have hl1 : 0 < l.length := by cases l; simp at h; simp
    have hs1 : ((ba' l).size : Int) = l.length := by rw [hs]
    have hs2 : (1 : Int) ≤ (l.length : Int) := by omega
    have e : (ba' l).extract 1 l.length = ba' l.tail := by rw [extract_ba, List.take_length, List.drop_one]
    unfold signL
    rw [if_pos h]
    have HE := Lib.hid e
    clear h e
    go_enter Tryz.func128, Tryz.ntmps128
    go_wp2_with (go_at_call 100; refine (H _).mono ?_; rintro e w' ⟨rfl, rfl⟩)
    go_ret2
    exact ⟨ret_sb HE.out, rfl⟩
  · have H := fun w => hasPrefix_one l 45 w
    rw [show decide (l.head? = some 45) = false by simpa using h] at H
    have T : ∀ w, Calls Tryz.prog 147 #[.string (ba' l), .string ⟨#[43]⟩] w fun e w' => e = .returned (.string (ba' (if l.head? = some 43 then l.tail else l))) ∧ w = w' := fun w => by
      refine (Tryz.strings_TrimPrefix (ba' l) ⟨#[43]⟩ w).mono fun e w' ⟨a, b⟩ => ⟨?_, b.symm⟩
      rw [a]
      congr 2
      unfold ba' Lib.trimPrefix Lib.hasPrefix
      cases l with
      | nil => rfl
      | cons x t =>
        show (⟨(if ((43 : UInt8) == x && true) = true then (x :: t).drop 1 else x :: t).toArray⟩ : ByteArray) = _
        rw [Bool.and_true]
        by_cases h : x = 43
        · subst h; simp
        · have h' : ¬ (43 : UInt8) = x := fun e => h e.symm
          simp [h, h']
    have e2 : signL l = (if l.head? = some 43 then l.tail else l, false) := by unfold signL; rw [if_neg h]; split <;> rfl
    rw [e2]
    have HT := Lib.hid T
    clear h e2 T
    generalize (if l.head? = some 43 then l.tail else l) = r at *
    go_enter Tryz.func128, Tryz.ntmps128
    go_wp2_with (first | (go_at_call 100; refine (H _).mono ?_; rintro e w' ⟨rfl, rfl⟩) | (go_at_call 147; refine (HT.out _).mono ?_; rintro e w' ⟨rfl, rfl⟩))
    go_ret2
    exact ⟨rfl, rfl⟩
theorem ret_ss {a b c d : ByteArray} (h : a = b) (h' : c = d) : Ending.returned (.tuple #[.string a, .string c]) = .returned (.tuple #[.string b, .string d]) := by rw [h, h']
theorem digits_any (l : List UInt8) (hl : l.length ≤ 2000000) (w : World) : Calls Tryz.prog 129 #[.string (ba' l)] w fun e w' => e = .returned (.tuple #[.string (ba' (l.takeWhile isD)), .string (ba' (l.dropWhile isD))]) ∧ Below w.heap.size w w' := by
  have hs := size_ba l
  have hs' := size_ba (l.dropWhile isD)
  have happ := List.takeWhile_append_dropWhile (p := isD) (l := l)
  have hlen : l.length = (l.takeWhile isD).length + (l.dropWhile isD).length := by have := congrArg List.length happ; rw [List.length_append] at this; exact this.symm
  have T := fun w => trimLeft_digits l w
  have HT := Lib.hid T
  clear T
  generalize ha : l.takeWhile isD = a at *
  generalize hr : l.dropWhile isD = r at *
  have e : (ba' l).extract 0 a.length = ba' a := by
    rw [extract_ba, List.drop_zero, ← happ, List.take_left]
  have HE := Lib.hid e
  clear happ e
  have wl : IntKind.i64.wrap ((l.length : Int) - (r.length : Int)) = (a.length : Int) := by rw [IntKind.wrap_i64]; omega
  have hs1 : ((ba' l).size : Int) = l.length := by rw [hs]
  have hs2 : ((ba' r).size : Int) = r.length := by rw [hs']
  have hal : (a.length : Int) ≤ (l.length : Int) := by omega
  have ha0 : (0 : Int) ≤ (a.length : Int) := by omega
  clear ha hr hlen
  go_enter Tryz.func129, Tryz.ntmps129
  go_wp2_with (go_at_call 130; refine (HT.out _).mono ?_; rintro e w' ⟨rfl, hb⟩)
  go_ret2
  exact ⟨ret_ss HE.out rfl, hb⟩
end Go.Proofs
namespace Go.Proofs
open Go.Shelf Go.RowKit Go.Proofs.Wide
def valL (l : List UInt8) : Int := l.foldl (fun v c => v * 10 + ((c.toNat : Int) - 48)) 0
theorem valL_snoc (l : List UInt8) (c : UInt8) : valL (l ++ [c]) = valL l * 10 + ((c.toNat : Int) - 48) := by unfold valL; rw [List.foldl_append]; rfl
def RdI (w0 : World) (l : List UInt8) (x y z c : Int) (i : Nat) (c20 : Value) (listed : Array Bool) (A : Act) (w : World) : Prop := ∃ (s10 s11 s12 s13 s14 s15 s16 s17 s18 s19 : Value), A = { tmps := #[.string (ba' l), undef, .pointer (some ⟨w0.heap.size, 0, none⟩), .pointer (some ⟨w0.heap.size + 1, 0, none⟩), .int .i64 (i : Int), .string (ba' l), .int .i64 (l.length : Int), .int .i64 (i : Int), .bool true, .int .i64 (i : Int), s10, s11, s12, s13, s14, s15, s16, s17, s18, s19, c20, undef], defers := [] } ∧
  (listed.getD 0 false = true → s10 = .agg #[.int .u64 (hi x), .int .u64 (lo x)]) ∧
  (listed.getD 1 false = true → s11 = .agg #[.int .u64 0, .int .u64 10]) ∧
  (listed.getD 2 false = true → s12 = .agg #[.int .u64 (hi y), .int .u64 (lo y)]) ∧
  (listed.getD 3 false = true → s13 = .string (ba' l)) ∧
  (listed.getD 4 false = true → s14 = .int .i64 (i : Int)) ∧
  (listed.getD 5 false = true → s15 = .int .u8 c) ∧
  (listed.getD 6 false = true → s16 = .int .u8 (c - 48)) ∧
  (listed.getD 7 false = true → s17 = .int .i64 (c - 48)) ∧
  (listed.getD 8 false = true → s18 = .agg #[.int .u64 (hi (c - 48)), .int .u64 (lo (c - 48))]) ∧
  (listed.getD 9 false = true → s19 = .agg #[.int .u64 (hi z), .int .u64 (lo z)]) ∧
  (listed.getD 10 false = true → Own w (w0.heap.size + 1) (.int .u64 (hi z)) (.int .u64 (lo z))) ∧
  Below w0.heap.size w0 w ∧
  (∃ u v, Own w (w0.heap.size) u v) ∧
  (listed.getD 10 false = false → Own w (w0.heap.size + 1) (.int .u64 (hi x)) (.int .u64 (lo x))) ∧
  (listed.getD 10 false = true → listed.getD 0 false = true)

set_option maxHeartbeats 4000000 in
theorem read_any (l : List UInt8) (hl : l.length ≤ 2000000) (hd : l.all isD = true) (w0 : World) : Calls Tryz.prog 131 #[.string (ba' l)] w0 fun e w' => e = .returned (wv (valL l)) ∧ Below w0.heap.size w0 w' := by
  have hs := size_ba l
  have hs1 : ((ba' l).size : Int) = l.length := by rw [hs]
  go_enter Tryz.func131, Tryz.ntmps131
  go_wp2
  go_loopw [7] (fun s7 wx => ∃ k : Nat, s7 = .int .i64 k ∧ k ≤ l.length ∧ (∃ u v, Own wx w0.heap.size u v) ∧ Own wx (w0.heap.size + 1) (.int .u64 (hi (valL (l.take k)))) (.int .u64 (lo (valL (l.take k)))) ∧ Below w0.heap.size w0 wx) (fun s7 _ => l.length - (intOf s7).toNat)
  case atStart => exact ⟨0, rfl, Nat.zero_le _, ⟨_, _, (Own.new_at (by simp)).alloc _⟩, Own.new_at (by simp), ba (ba (Below.refl _ _))⟩
  case round =>
    obtain ⟨i, rfl, hi, ⟨g1, g2, O0⟩, O1, HB⟩ := hrel
    by_cases hlt : i < l.length
    · obtain ⟨c8, hc8⟩ : ∃ c8, l[i] = c8 := ⟨_, rfl⟩
      have hcd : isD c8 = true := List.all_eq_true.1 hd c8 (by rw [← hc8]; exact List.getElem_mem hlt)
      have hts : l.take (i + 1) = l.take i ++ [c8] := by rw [List.take_add_one, List.getElem?_eq_getElem hlt, hc8]; rfl
      have hv : valL (l.take (i + 1)) = valL (l.take i) * 10 + ((c8.toNat : Int) - 48) := by rw [hts, valL_snoc]
      have hgi : ((ba' l)[i]'(by rw [hs]; exact hlt)).toNat = c8.toNat := by rw [← hc8]; rfl
      have hc1 : 48 ≤ (c8.toNat : Int) := by unfold isD at hcd; simp at hcd; omega
      have hc2 : (c8.toNat : Int) ≤ 57 := by unfold isD at hcd; simp at hcd; omega
      have HV := Lib.hid hv
      clear hv hts hcd hc8
      obtain ⟨x, hx⟩ : ∃ x, valL (l.take i) = x := ⟨_, rfl⟩
      rw [hx] at O1 HV
      clear hx
      obtain ⟨c, hc⟩ : ∃ c, (c8.toNat : Int) = c := ⟨_, rfl⟩
      rw [hc] at HV hc1 hc2
      have H1 : Hid (Gives 81 #[.int .i64 10] (.agg #[.int .u64 0, .int .u64 10])) := gives_unfold fun w => wideOf_any 10 (by decide) (by decide) w
      have H2 : Hid (Gives 82 #[wv x, wv 10] (wv (x * 10))) := gives_unfold fun w => times_any x 10 w
      rw [show wv 10 = .agg #[.int .u64 0, .int .u64 10] from rfl, wv_agg, wv_agg] at H2
      have H3 : Hid (Gives 81 #[.int .i64 (c - 48)] (wv (c - 48))) := gives_unfold fun w => wideOf_any (c - 48) (by omega) (by omega) w
      have H4 : Hid (Gives 152 #[wv (x * 10), wv (c - 48)] (wv (x * 10 + (c - 48)))) := gives_unfold fun w => plus_any (x * 10) (c - 48) w
      rw [wv_agg] at H3
      rw [wv_agg, wv_agg, wv_agg] at H4
      obtain ⟨y, hy⟩ : ∃ y, x * 10 = y := ⟨_, rfl⟩
      rw [hy] at H2 H4 HV
      obtain ⟨z, hz⟩ : ∃ z, y + (c - 48) = z := ⟨_, rfl⟩
      rw [hz] at H4 HV
      clear hy hz
      have hlt' : (i : Int) < (l.length : Int) := by omega
      have hi0 : (0 : Int) ≤ (i : Int) := by omega
      have wc : IntKind.u8.wrap (c - 48) = c - 48 := by rw [IntKind.wrap_u8]; omega
      have wi : IntKind.i64.wrap (c - 48) = c - 48 := by rw [IntKind.wrap_i64]; omega
      go_upto_region 5 with fail
      refine wp_region_inv (by kernel_rfl) (by kernel_rfl) (RdI w0 l x y z c i u20) ?_ ?_ ?_
      · exact ⟨_, _, _, _, _, _, _, _, _, _, rfl, fun h => absurd h l0, fun h => absurd h l0, fun h => absurd h l0, fun h => absurd h l0, fun h => absurd h l0, fun h => absurd h l0, fun h => absurd h l0, fun h => absurd h l0, fun h => absurd h l0, fun h => absurd h l0, fun h => absurd h l0, bdr HB, ⟨_, _, O0.drew⟩, fun _ => O1.drew, fun h => absurd h l0⟩
      · intro i o listed A w hi ho hd hn hI
        obtain ⟨s10, s11, s12, s13, s14, s15, s16, s17, s18, s19, rfl, F0, F1, F2, F3, F4, F5, F6, F7, F8, F9, F10, F11, F12, F13, F14⟩ := hI
        have hi' : i < 11 := hi
        clear hi
        rcases (by omega : i = 0 ∨ i = 1 ∨ i = 2 ∨ i = 3 ∨ i = 4 ∨ i = 5 ∨ i = 6 ∨ i = 7 ∨ i = 8 ∨ i = 9 ∨ i = 10) with rfl | rfl | rfl | rfl | rfl | rfl | rfl | rfl | rfl | rfl | rfl
        · simp only [List.getElem?_toArray, List.getElem?_cons_zero, Option.some.injEq] at ho
          subst ho
          have O'1 := F13 (ln hn F14); have O''1 := O'1; obtain ⟨_, _, _, _⟩ := O''1
          refine wpOp_step rfl (fun K hK => ?_)
          go_simp
          refine hK _ _ ?_
          exact ⟨_, _, _, _, _, _, _, _, _, _, rfl, fun _ => rfl, fun h => F1 (ls (by decide) h), fun h => F2 (ls (by decide) h), fun h => F3 (ls (by decide) h), fun h => F4 (ls (by decide) h), fun h => F5 (ls (by decide) h), fun h => F6 (ls (by decide) h), fun h => F7 (ls (by decide) h), fun h => F8 (ls (by decide) h), fun h => F9 (ls (by decide) h), fun h => F10 (ls (by decide) h), F11, F12, fun h => F13 (lsf (by decide) h), fun _ => lself hn⟩
        · simp only [List.getElem?_toArray, List.getElem?_cons_zero, List.getElem?_cons_succ, Option.some.injEq] at ho
          subst ho
          refine wpOp_step rfl (fun K hK => ?_)
          go_simp
          go_at_call 81; refine (H1.out.call _).mono ?_; rintro e w' ⟨rfl, hb⟩
          refine hK _ _ ?_
          exact ⟨_, _, _, _, _, _, _, _, _, _, rfl, fun h => F0 (ls (by decide) h), fun _ => rfl, fun h => F2 (ls (by decide) h), fun h => F3 (ls (by decide) h), fun h => F4 (ls (by decide) h), fun h => F5 (ls (by decide) h), fun h => F6 (ls (by decide) h), fun h => F7 (ls (by decide) h), fun h => F8 (ls (by decide) h), fun h => F9 (ls (by decide) h), fun h => ((F10 (ls (by decide) h))).call hb, bt F11 hb, (let ⟨u, v, c⟩ := F12; ⟨u, v, (c).call hb⟩), fun h => ((F13 (lsf (by decide) h))).call hb, fun h => la (F14 (ls (by decide) h))⟩
        · simp only [List.getElem?_toArray, List.getElem?_cons_zero, List.getElem?_cons_succ, Option.some.injEq] at ho
          subst ho
          obtain rfl := F0 (hd ⟨0, .data⟩ (by simp) rfl)
          obtain rfl := F1 (hd ⟨1, .data⟩ (by simp) rfl)
          refine wpOp_step rfl (fun K hK => ?_)
          go_simp
          go_at_call 82; refine (H2.out.call _).mono ?_; rintro e w' ⟨rfl, hb⟩
          refine hK _ _ ?_
          exact ⟨_, _, _, _, _, _, _, _, _, _, rfl, fun h => F0 (ls (by decide) h), fun h => F1 (ls (by decide) h), fun _ => rfl, fun h => F3 (ls (by decide) h), fun h => F4 (ls (by decide) h), fun h => F5 (ls (by decide) h), fun h => F6 (ls (by decide) h), fun h => F7 (ls (by decide) h), fun h => F8 (ls (by decide) h), fun h => F9 (ls (by decide) h), fun h => ((F10 (ls (by decide) h))).call hb, bt F11 hb, (let ⟨u, v, c⟩ := F12; ⟨u, v, (c).call hb⟩), fun h => ((F13 (lsf (by decide) h))).call hb, fun h => la (F14 (ls (by decide) h))⟩
        · simp only [List.getElem?_toArray, List.getElem?_cons_zero, List.getElem?_cons_succ, Option.some.injEq] at ho
          subst ho
          refine wpOp_step rfl (fun K hK => ?_)
          go_simp
          refine hK _ _ ?_
          exact ⟨_, _, _, _, _, _, _, _, _, _, rfl, fun h => F0 (ls (by decide) h), fun h => F1 (ls (by decide) h), fun h => F2 (ls (by decide) h), fun _ => rfl, fun h => F4 (ls (by decide) h), fun h => F5 (ls (by decide) h), fun h => F6 (ls (by decide) h), fun h => F7 (ls (by decide) h), fun h => F8 (ls (by decide) h), fun h => F9 (ls (by decide) h), fun h => F10 (ls (by decide) h), F11, F12, fun h => F13 (lsf (by decide) h), fun h => la (F14 (ls (by decide) h))⟩
        · simp only [List.getElem?_toArray, List.getElem?_cons_zero, List.getElem?_cons_succ, Option.some.injEq] at ho
          subst ho
          refine wpOp_step rfl (fun K hK => ?_)
          go_simp
          refine hK _ _ ?_
          exact ⟨_, _, _, _, _, _, _, _, _, _, rfl, fun h => F0 (ls (by decide) h), fun h => F1 (ls (by decide) h), fun h => F2 (ls (by decide) h), fun h => F3 (ls (by decide) h), fun _ => rfl, fun h => F5 (ls (by decide) h), fun h => F6 (ls (by decide) h), fun h => F7 (ls (by decide) h), fun h => F8 (ls (by decide) h), fun h => F9 (ls (by decide) h), fun h => F10 (ls (by decide) h), F11, F12, fun h => F13 (lsf (by decide) h), fun h => la (F14 (ls (by decide) h))⟩
        · simp only [List.getElem?_toArray, List.getElem?_cons_zero, List.getElem?_cons_succ, Option.some.injEq] at ho
          subst ho
          obtain rfl := F3 (hd ⟨3, .data⟩ (by simp) rfl)
          obtain rfl := F4 (hd ⟨4, .data⟩ (by simp) rfl)
          refine wpOp_step rfl (fun K hK => ?_)
          go_simp
          refine hK _ _ ?_
          exact ⟨_, _, _, _, _, _, _, _, _, _, rfl, fun h => F0 (ls (by decide) h), fun h => F1 (ls (by decide) h), fun h => F2 (ls (by decide) h), fun h => F3 (ls (by decide) h), fun h => F4 (ls (by decide) h), fun _ => rfl, fun h => F6 (ls (by decide) h), fun h => F7 (ls (by decide) h), fun h => F8 (ls (by decide) h), fun h => F9 (ls (by decide) h), fun h => F10 (ls (by decide) h), F11, F12, fun h => F13 (lsf (by decide) h), fun h => la (F14 (ls (by decide) h))⟩
        · simp only [List.getElem?_toArray, List.getElem?_cons_zero, List.getElem?_cons_succ, Option.some.injEq] at ho
          subst ho
          obtain rfl := F5 (hd ⟨5, .data⟩ (by simp) rfl)
          refine wpOp_step rfl (fun K hK => ?_)
          go_simp
          refine hK _ _ ?_
          exact ⟨_, _, _, _, _, _, _, _, _, _, rfl, fun h => F0 (ls (by decide) h), fun h => F1 (ls (by decide) h), fun h => F2 (ls (by decide) h), fun h => F3 (ls (by decide) h), fun h => F4 (ls (by decide) h), fun h => F5 (ls (by decide) h), fun _ => rfl, fun h => F7 (ls (by decide) h), fun h => F8 (ls (by decide) h), fun h => F9 (ls (by decide) h), fun h => F10 (ls (by decide) h), F11, F12, fun h => F13 (lsf (by decide) h), fun h => la (F14 (ls (by decide) h))⟩
        · simp only [List.getElem?_toArray, List.getElem?_cons_zero, List.getElem?_cons_succ, Option.some.injEq] at ho
          subst ho
          obtain rfl := F6 (hd ⟨6, .data⟩ (by simp) rfl)
          refine wpOp_step rfl (fun K hK => ?_)
          go_simp
          refine hK _ _ ?_
          exact ⟨_, _, _, _, _, _, _, _, _, _, rfl, fun h => F0 (ls (by decide) h), fun h => F1 (ls (by decide) h), fun h => F2 (ls (by decide) h), fun h => F3 (ls (by decide) h), fun h => F4 (ls (by decide) h), fun h => F5 (ls (by decide) h), fun h => F6 (ls (by decide) h), fun _ => rfl, fun h => F8 (ls (by decide) h), fun h => F9 (ls (by decide) h), fun h => F10 (ls (by decide) h), F11, F12, fun h => F13 (lsf (by decide) h), fun h => la (F14 (ls (by decide) h))⟩
        · simp only [List.getElem?_toArray, List.getElem?_cons_zero, List.getElem?_cons_succ, Option.some.injEq] at ho
          subst ho
          obtain rfl := F7 (hd ⟨7, .data⟩ (by simp) rfl)
          refine wpOp_step rfl (fun K hK => ?_)
          go_simp
          go_at_call 81; refine (H3.out.call _).mono ?_; rintro e w' ⟨rfl, hb⟩
          refine hK _ _ ?_
          exact ⟨_, _, _, _, _, _, _, _, _, _, rfl, fun h => F0 (ls (by decide) h), fun h => F1 (ls (by decide) h), fun h => F2 (ls (by decide) h), fun h => F3 (ls (by decide) h), fun h => F4 (ls (by decide) h), fun h => F5 (ls (by decide) h), fun h => F6 (ls (by decide) h), fun h => F7 (ls (by decide) h), fun _ => rfl, fun h => F9 (ls (by decide) h), fun h => ((F10 (ls (by decide) h))).call hb, bt F11 hb, (let ⟨u, v, c⟩ := F12; ⟨u, v, (c).call hb⟩), fun h => ((F13 (lsf (by decide) h))).call hb, fun h => la (F14 (ls (by decide) h))⟩
        · simp only [List.getElem?_toArray, List.getElem?_cons_zero, List.getElem?_cons_succ, Option.some.injEq] at ho
          subst ho
          obtain rfl := F2 (hd ⟨2, .data⟩ (by simp) rfl)
          obtain rfl := F8 (hd ⟨8, .data⟩ (by simp) rfl)
          refine wpOp_step rfl (fun K hK => ?_)
          go_simp
          go_at_call 152; refine (H4.out.call _).mono ?_; rintro e w' ⟨rfl, hb⟩
          refine hK _ _ ?_
          exact ⟨_, _, _, _, _, _, _, _, _, _, rfl, fun h => F0 (ls (by decide) h), fun h => F1 (ls (by decide) h), fun h => F2 (ls (by decide) h), fun h => F3 (ls (by decide) h), fun h => F4 (ls (by decide) h), fun h => F5 (ls (by decide) h), fun h => F6 (ls (by decide) h), fun h => F7 (ls (by decide) h), fun h => F8 (ls (by decide) h), fun _ => rfl, fun h => ((F10 (ls (by decide) h))).call hb, bt F11 hb, (let ⟨u, v, c⟩ := F12; ⟨u, v, (c).call hb⟩), fun h => ((F13 (lsf (by decide) h))).call hb, fun h => la (F14 (ls (by decide) h))⟩
        · simp only [List.getElem?_toArray, List.getElem?_cons_zero, List.getElem?_cons_succ, Option.some.injEq] at ho
          subst ho
          obtain rfl := F9 (hd ⟨9, .data⟩ (by simp) rfl)
          have O'1 := F13 (lf hn); have O''1 := O'1; obtain ⟨_, _, _, _⟩ := O''1
          refine wpOp_step rfl (fun K hK => ?_)
          go_simp
          refine hK _ _ ?_
          exact ⟨_, _, _, _, _, _, _, _, _, _, rfl, fun h => F0 (ls (by decide) h), fun h => F1 (ls (by decide) h), fun h => F2 (ls (by decide) h), fun h => F3 (ls (by decide) h), fun h => F4 (ls (by decide) h), fun h => F5 (ls (by decide) h), fun h => F6 (ls (by decide) h), fun h => F7 (ls (by decide) h), fun h => F8 (ls (by decide) h), fun h => F9 (ls (by decide) h), fun _ => O'1.store _ _, bs (bs F11 (by first | (simp; done) | (simp; omega))) (by first | (simp; done) | (simp; omega)), (let ⟨u, v, c⟩ := F12; ⟨u, v, (c.set_ (by first | (simp; done) | (simp; omega))).set_ (by first | (simp; done) | (simp; omega))⟩), fun h => _root_.Go.lx hn h, fun _ => la (hd ⟨0, .phase⟩ (by simp) rfl)⟩
      · intro listed A w hall hI
        obtain ⟨s10, s11, s12, s13, s14, s15, s16, s17, s18, s19, rfl, F0, F1, F2, F3, F4, F5, F6, F7, F8, F9, F10, F11, F12, F13, F14⟩ := hI
        obtain rfl := F0 (hall 0 (by decide))
        obtain rfl := F1 (hall 1 (by decide))
        obtain rfl := F2 (hall 2 (by decide))
        obtain rfl := F3 (hall 3 (by decide))
        obtain rfl := F4 (hall 4 (by decide))
        obtain rfl := F5 (hall 5 (by decide))
        obtain rfl := F6 (hall 6 (by decide))
        obtain rfl := F7 (hall 7 (by decide))
        obtain rfl := F8 (hall 8 (by decide))
        obtain rfl := F9 (hall 9 (by decide))
        have P10 := F10 (hall 10 (by decide))
        have HB := F11
        have B0 := F12
        clear hall F10 F11 F12 F13 F14 F0 F1 F2 F3 F4 F5 F6 F7 F8 F9
        try dsimp only

        obtain ⟨u5, v5, B0⟩ := B0
        go_wp2
        go_roundw
        case rel => exact ⟨i + 1, by go_num, by omega, ⟨_, _, B0⟩, by rw [HV.out]; exact P10, HB⟩
        case measure => simp [intOf]; omega
    · obtain rfl : i = l.length := by omega
      rw [List.take_length] at O1
      obtain ⟨_, _, _, _⟩ := O1
      obtain ⟨_, _, _, _⟩ := O0
      go_wp2
      exact bodyPost_ret (v := wv (valL l)) (by simp [results, Tryz.results131, go_sem, wv, *]) rfl ⟨rfl, by repeat (first | exact Below.refl _ _ | apply ba | apply bd | apply bdr | (refine bs ?_ (by first | (simp; done) | (simp; omega))) | (refine bt ?_ (by assumption)))⟩
end Go.Proofs
namespace Go.Proofs
open Go.Shelf Go.RowKit Go.Proofs.Wide

def behindL (r : List UInt8) : List UInt8 × List UInt8 := if r.head? = some 46 then (r.tail.takeWhile isD, r.tail.dropWhile isD) else ([], r)
/-- A text as a number. -/
def parseP (neg : Bool) (a b r2 : List UInt8) : Int × Int × Int :=
  if r2 ≠ [] ∨ a ++ b = [] then (0, 0, 12)
  else if 18 < (a.dropWhile (· == 48)).length then (0, 0, 53)
  else (outN (fitZ (if neg = true then -valL (a.dropWhile (· == 48) ++ b.take 9) else valL (a.dropWhile (· == 48) ++ b.take 9)) (b.take 9).length),
        outK (fitZ (if neg = true then -valL (a.dropWhile (· == 48) ++ b.take 9) else valL (a.dropWhile (· == 48) ++ b.take 9)) (b.take 9).length),
        outE (fitZ (if neg = true then -valL (a.dropWhile (· == 48) ++ b.take 9) else valL (a.dropWhile (· == 48) ++ b.take 9)) (b.take 9).length))
def parseZ (l : List UInt8) : Int × Int × Int :=
  parseP (signL l).2 ((signL l).1.takeWhile isD) (behindL ((signL l).1.dropWhile isD)).1 (behindL ((signL l).1.dropWhile isD)).2
theorem signL_len (l : List UInt8) : (signL l).1.length ≤ l.length := by unfold signL; split <;> (try split) <;> simp
theorem app_ba (a b : List UInt8) : ba' a ++ ba' b = ba' (a ++ b) := by
  apply ByteArray.ext
  unfold ba'
  rw [ByteArray.data_append]
  apply Array.toList_inj.1
  simp
theorem toList_ba (a : List UInt8) : (ba' a).toList = a := by rw [Lib.toList_data]; rfl
theorem valL_bound (l : List UInt8) (h : l.all isD = true) : 0 ≤ valL l ∧ valL l < 10 ^ l.length := by
  have key : ∀ (l : List UInt8) (v : Int), l.all isD = true → 0 ≤ v → 0 ≤ l.foldl (fun v c => v * 10 + ((c.toNat : Int) - 48)) v ∧ l.foldl (fun v c => v * 10 + ((c.toNat : Int) - 48)) v < (v + 1) * 10 ^ l.length := by
    intro l
    induction l with
    | nil => intro v _ hv; simp; omega
    | cons c l ih =>
      intro v ha hv
      simp only [List.all_cons, Bool.and_eq_true] at ha
      have hc := ha.1
      unfold isD at hc
      simp only [decide_eq_true_eq] at hc
      have := ih (v * 10 + ((c.toNat : Int) - 48)) ha.2 (by omega)
      rw [List.foldl_cons, List.length_cons, Int.pow_succ]
      refine ⟨this.1, Int.lt_of_lt_of_le this.2 ?_⟩
      have e : (v + 1) * (10 ^ l.length * 10) = ((v + 1) * 10) * 10 ^ l.length := by rw [Int.mul_assoc, Int.mul_comm 10]
      rw [e]
      exact Int.mul_le_mul_of_nonneg_right (by omega) (Int.le_of_lt (ten_pos _))
  have := key l 0 h (by decide)
  unfold valL
  simpa using this
theorem all_drop {p q : UInt8 → Bool} : ∀ (l : List UInt8), l.all p = true → (l.dropWhile q).all p = true := by
  intro l
  induction l with
  | nil => intro _; rfl
  | cons c l ih =>
    intro h
    rw [List.dropWhile_cons]
    split
    · exact ih (by simp at h ⊢; exact h.2)
    · exact h
theorem all_takeWhile (l : List UInt8) : (l.takeWhile isD).all isD = true := by
  exact List.all_takeWhile

set_option maxRecDepth 100000 in
set_option maxHeartbeats 8000000 in
theorem parse_core (l s a r b r2 : List UInt8) (neg : Bool) (w0 : World) (hl : l.length ≤ 2000000) (hs : (signL l) = (s, neg)) (ha : s.takeWhile isD = a) (hr : s.dropWhile isD = r) (hb : behindL r = (b, r2)) (pn pk pe : Int) (HP : Hid (parseP neg a b r2 = (pn, pk, pe))) :
    Calls Tryz.prog 107 #[.string (ba' l)] w0 fun e w' => e = .returned (.tuple #[.agg #[.int .i64 pn, .int .i64 pk], .int .i64 pe]) ∧ Below w0.heap.size w0 w' := by
  have hsl : s.length ≤ 2000000 := by have := signL_len l; rw [hs] at this; simp only at this; omega
  have hrl : r.length ≤ 2000000 := by rw [← hr]; have := (List.dropWhile_sublist isD (l := s)).length_le; omega
  have hal : a.length ≤ 2000000 := by rw [← ha]; have := (List.takeWhile_sublist isD (l := s)).length_le; omega
  have had : a.all isD = true := by rw [← ha]; exact all_takeWhile s
  have HS : Hid (∀ w, Calls Tryz.prog 128 #[.string (ba' l)] w fun e w' => e = .returned (.tuple #[.string (ba' s), .bool neg]) ∧ w = w') := Lib.hid fun w => by
    have := sign_any l hl w
    rw [hs] at this
    exact this
  have HD : Hid (Gives 129 #[.string (ba' s)] (.tuple #[.string (ba' a), .string (ba' r)])) := gives_unfold fun w => by
    have := digits_any s hsl w
    rw [ha, hr] at this
    exact this
  have hbl : b.length ≤ 2000000 := by
    have : b = (behindL r).1 := by rw [hb]
    rw [this]; unfold behindL; split
    · have := (List.takeWhile_sublist isD (l := r.tail)).length_le; simp at this ⊢; omega
    · simp
  have hbd : b.all isD = true := by
    have : b = (behindL r).1 := by rw [hb]
    rw [this]; unfold behindL; split
    · exact all_takeWhile _
    · rfl
  have hszr := size_ba r
  clear ha hr hs
  go_enter Tryz.func107, Tryz.ntmps107
  go_upto_if 19 with (first
    | (go_at_call 128; refine (HS.out _).mono ?_; rintro e w' ⟨rfl, rfl⟩)
    | (go_at_call 129; refine (HD.out.call _).mono ?_; rintro e w1 ⟨rfl, hb1⟩; have O1 := (Own.new_at (by simp) : Own (w0.alloc (.cells #[.int .i64 0, .int .i64 0] 30)) w0.heap.size (.int .i64 0) (.int .i64 0)).call hb1)
    | (go_at_call 100; refine (hasPrefix_one r 46 _).mono ?_; rintro e w' ⟨rfl, rfl⟩))
  go_cut [4, 7] (fun s4 s7 wx => s4 = .string (ba' r2) ∧ s7 = .string (ba' b) ∧ Below w0.heap.size w0 wx ∧ ∃ u v, Own wx w0.heap.size u v)
  case first =>
    by_cases hp : r.head? = some 46
    · have hdp : decide (r.head? = some 46) = true := by simpa using hp
      have e1 : behindL r = (r.tail.takeWhile isD, r.tail.dropWhile isD) := by unfold behindL; rw [if_pos hp]
      rw [hb] at e1
      injection e1 with e1 e2
      have HD2 : Hid (Gives 129 #[.string (ba' r.tail)] (.tuple #[.string (ba' b), .string (ba' r2)])) := gives_unfold fun w => by
        have := digits_any r.tail (by simp; omega) w
        rw [← e1, ← e2] at this
        exact this
      have hr1 : (1 : Int) ≤ (r.length : Int) := by
        cases r with
        | nil => simp at hp
        | cons x t => simp; omega
      have hx : (ba' r).extract 1 r.length = ba' r.tail := by rw [extract_ba, List.take_length, List.drop_one]
      have hszr' : ((ba' r).size : Int) = r.length := by rw [hszr]
      clear e1 e2 hp hb
      simp only [hdp]
      go_wp2_with (go_at_call 129; refine (HD2.out.call _).mono ?_; rintro e w2 ⟨rfl, hb2⟩)
      go_meet
      exact ⟨rfl, rfl, by repeat (first | exact Below.refl _ _ | apply ba | (refine bt ?_ (by assumption))), _, _, O1.call hb2⟩
    · have hdp : decide (r.head? = some 46) = false := by simpa using hp
      have e1 : behindL r = ([], r) := by unfold behindL; rw [if_neg hp]
      rw [hb] at e1
      injection e1 with e1 e2
      subst e1
      subst e2
      clear hp hb
      simp only [hdp]
      go_wp2
      go_meet
      exact ⟨rfl, rfl, by repeat (first | exact Below.refl _ _ | apply ba | (refine bt ?_ (by assumption))), _, _, O1⟩
  case rest =>
    obtain ⟨rfl, rfl, HB, u0, v0, OB⟩ := hcut
    have OB' := Lib.hid OB
    obtain ⟨_, _, _, _⟩ := OB
    have ht2 := toList_ba r2
    have happ := app_ba a b
    have hsa : ((ba' a).size : Int) = a.length := by rw [size_ba]
    have hsb : ((ba' b).size : Int) = b.length := by rw [size_ba]
    have hal' : (a.length : Int) ≤ 2000000 := by omega
    have hbl' : (b.length : Int) ≤ 2000000 := by omega
    by_cases h2 : r2 = []
    · have e2 : (ba' r2).toList = [] := by rw [ht2]; exact h2
      have e2' : (!(ba' r2).toList.isEmpty) = false := by rw [e2]; rfl
      have e2'' : (ba' r2).toList.isEmpty = true := by rw [e2]; rfl
      by_cases hab : a ++ b = []
      · have hP : parseP neg a b r2 = (0, 0, 12) := by unfold parseP; rw [if_pos (.inr hab)]
        have e3 : (ba' (a ++ b)).toList = [] := by rw [toList_ba]; exact hab
        have e3'' : (ba' (a ++ b)).toList.isEmpty = true := by rw [e3]; rfl
        have hq := HP.out
        rw [hP] at hq
        cases hq
        clear hP h2 hab ht2 HP
        go_wp2
        exact bodyPost_ret (v := .tuple #[.agg #[.int .i64 0, .int .i64 0], .int .i64 12]) (by simp [results, Tryz.results107, go_sem, *]) rfl ⟨rfl, bs (bs HB (by simp)) (by simp)⟩
      · have hP : parseP neg a b r2 = (if 18 < (a.dropWhile (· == 48)).length then (0, 0, 53)
            else (outN (fitZ (if neg = true then -valL (a.dropWhile (· == 48) ++ b.take 9) else valL (a.dropWhile (· == 48) ++ b.take 9)) (b.take 9).length),
              outK (fitZ (if neg = true then -valL (a.dropWhile (· == 48) ++ b.take 9) else valL (a.dropWhile (· == 48) ++ b.take 9)) (b.take 9).length),
              outE (fitZ (if neg = true then -valL (a.dropWhile (· == 48) ++ b.take 9) else valL (a.dropWhile (· == 48) ++ b.take 9)) (b.take 9).length))) := by
          unfold parseP; rw [if_neg (by intro h; rcases h with h | h; exact h h2; exact hab h)]
        have e3'' : (ba' (a ++ b)).toList.isEmpty = false := by
          rw [toList_ba]; cases h : a ++ b with
          | nil => exact absurd h hab
          | cons _ _ => rfl
        have e3 : ¬ (ba' (a ++ b)).toList = [] := by rw [toList_ba]; exact hab
        have HT : Hid (Gives 130 #[.string (ba' a), .string ⟨#[48]⟩] (.string (ba' (a.dropWhile (· == 48))))) := gives_unfold fun w => trimLeft_noughts a w
        have hcl : (a.dropWhile (· == 48)).length ≤ a.length := (List.dropWhile_sublist (· == 48) (l := a)).length_le
        have hcd := all_drop (p := isD) (q := (· == 48)) a had
        have hq := HP.out
        rw [hP] at hq
        generalize a.dropWhile (· == 48) = c at *
        have hsc : ((ba' c).size : Int) = c.length := by rw [size_ba]
        have htk : (b.take 9).length = min 9 b.length := List.length_take
        have htd : (b.take 9).all isD = true := by
          rw [List.all_eq_true]; intro x hx; exact List.all_eq_true.1 hbd x (List.mem_of_mem_take hx)
        obtain ⟨m, hm⟩ : ∃ m : Nat, m = min b.length 9 := ⟨_, rfl⟩
        have hmI : min (b.length : Int) 9 = (m : Int) := by omega
        have hmI' : min (9 : Int) (b.length : Int) = (m : Int) := by omega
        have hm9 : m ≤ 9 := by omega
        have hmb : (m : Int) ≤ (b.length : Int) := by omega
        have hbt : b.take 9 = b.take m := by
          by_cases h : b.length ≤ 9
          · rw [List.take_of_length_le h, List.take_of_length_le (by omega)]
          · rw [show m = 9 by omega]
        have hex : (ba' b).extract 0 m = ba' (b.take 9) := by rw [extract_ba, List.drop_zero, hbt]
        have hm0 : (0 : Int) ≤ (m : Int) := by omega
        have htm : (b.take 9).length = m := by omega
        have hst : ((ba' (b.take 9)).size : Int) = m := by rw [size_ba, htm]
        rw [htm] at hq
        by_cases h18 : 18 < c.length
        · have h18' : (18 : Int) < (c.length : Int) := by omega
          rw [if_pos h18] at hq
          cases hq
          clear HP hP h2 hab ht2 htk hbt htd h18 htm hm had hcd hbd
          go_wp2_with (go_at_call 130; refine (HT.out.call _).mono ?_; rintro e w3 ⟨rfl, hb3⟩; obtain ⟨_, _, _, _⟩ := OB'.out.call hb3)
          exact bodyPost_ret (v := .tuple #[.agg #[.int .i64 0, .int .i64 0], .int .i64 53]) (by simp [results, Tryz.results107, go_sem, *]) rfl ⟨rfl, bs (bs (bt HB hb3) (by simp)) (by simp)⟩
        · have h18' : ¬ (18 : Int) < (c.length : Int) := by omega
          rw [if_neg h18] at hq
          have hall : (c ++ b.take 9).all isD = true := by rw [List.all_append, hcd, htd]; rfl
          have hv := valL_bound (c ++ b.take 9) hall
          have hlen : (c ++ b.take 9).length = c.length + m := by rw [List.length_append, htm]
          have hp : (10 : Int) ^ (c ++ b.take 9).length ≤ 1000000000000000000000000000 := by
            have x : (10 : Nat) ^ (c ++ b.take 9).length ≤ 10 ^ 27 := Nat.pow_le_pow_right (by decide) (by omega)
            have e : (((10 : Nat) ^ (c ++ b.take 9).length : Nat) : Int) = 10 ^ (c ++ b.take 9).length := by simp
            rw [← e]; exact Int.ofNat_le.2 x
          have happ2 := app_ba c (b.take 9)
          have HR : Hid (Gives 131 #[.string (ba' (c ++ b.take 9))] (wv (valL (c ++ b.take 9)))) := gives_unfold fun w => read_any (c ++ b.take 9) (by omega) hall w
          have HG : Hid (Gives 113 #[wv (valL (c ++ b.take 9)), .bool neg] (wv (if neg = true then -valL (c ++ b.take 9) else valL (c ++ b.take 9)))) := gives_unfold fun w => signed_any _ neg w
          have HF := gf (z := if neg = true then -valL (c ++ b.take 9) else valL (c ++ b.take 9)) (s := m) (by split <;> omega) (by split <;> omega) (by omega)
          generalize (if neg = true then -valL (c ++ b.take 9) else valL (c ++ b.take 9)) = z at *
          generalize valL (c ++ b.take 9) = y at *
          generalize fitZ z m = q at *
          unfold outV at HF
          generalize outN q = n1 at *
          generalize outK q = n2 at *
          generalize outE q = n3 at *
          rw [wv_agg] at HR
          rw [wv_agg, wv_agg] at HG
          rw [wv_agg] at HF
          have hcl' : (c.length : Int) ≤ 2000000 := by omega
          have hml' : (m : Int) ≤ 9 := by omega
          cases hq
          clear HP hP h2 hab ht2 htk hbt htd h18 htm hm had hcd hbd hall hv hlen hp
          go_wp2_with (first
            | (go_at_call 130; refine (HT.out.call _).mono ?_; rintro e w3 ⟨rfl, hb3⟩; have P3 := OB'.out.call hb3)
            | (go_at_call 131; refine (HR.out.call _).mono ?_; rintro e w4 ⟨rfl, hb4⟩; have P4 := P3.call hb4)
            | (go_at_call 113; refine (HG.out.call _).mono ?_; rintro e w5 ⟨rfl, hb5⟩; have P5 := P4.call hb5)
            | (go_at_call 54; refine (HF.out.call _).mono ?_; rintro e w6 ⟨rfl, hb6⟩; obtain ⟨_, _, _, _⟩ := P5.call hb6))
          exact bodyPost_ret (v := .tuple #[.agg #[.int .i64 pn, .int .i64 pk], .int .i64 pe]) (by simp [results, Tryz.results107, go_sem, *]) rfl ⟨rfl, bs (bs (bt (bt (bt (bt HB hb3) hb4) hb5) hb6) (by simp)) (by simp)⟩
    · have hP : parseP neg a b r2 = (0, 0, 12) := by unfold parseP; rw [if_pos (.inl h2)]
      have e2 : ¬ (ba' r2).toList = [] := by rw [ht2]; exact h2
      have e2'' : (ba' r2).toList.isEmpty = false := by
        rw [ht2]; cases r2 with
        | nil => exact absurd rfl h2
        | cons _ _ => rfl
      have hq := HP.out
      rw [hP] at hq
      cases hq
      clear hP h2 ht2 HP
      go_wp2
      exact bodyPost_ret (v := .tuple #[.agg #[.int .i64 0, .int .i64 0], .int .i64 12]) (by simp [results, Tryz.results107, go_sem, *]) rfl ⟨rfl, bs (bs HB (by simp)) (by simp)⟩
theorem parse_any (l : List UInt8) (hl : l.length ≤ 2000000) (w0 : World) :
    Calls Tryz.prog 107 #[.string (ba' l)] w0 fun e w' => e = .returned (.tuple #[.agg #[.int .i64 (parseZ l).1, .int .i64 (parseZ l).2.1], .int .i64 (parseZ l).2.2]) ∧ Below w0.heap.size w0 w' :=
  parse_core l (signL l).1 _ _ _ _ (signL l).2 w0 hl rfl rfl rfl rfl _ _ _ (Lib.hid rfl)
end Go.Proofs
namespace Go.Proofs
open Go.Shelf Go.RowKit Go.Proofs.Wide

def sgn (n : Int) : List UInt8 := if n < 0 then [45] else []
def padL (n : Int) (k : Nat) : List UInt8 := List.replicate (k + 1 - (Lib.decDigits n.natAbs).length) 48 ++ Lib.decDigits n.natAbs
/-- A number as a text. -/
def formatL (n : Int) (k : Nat) : List UInt8 := if k = 0 then sgn n ++ Lib.decDigits n.natAbs else sgn n ++ (padL n k).take ((padL n k).length - k) ++ [46] ++ (padL n k).drop ((padL n k).length - k)
theorem repeat_noughts (c : Nat) (hc : c ≤ 100) (w : World) : Calls Tryz.prog 72 #[.string ⟨#[48]⟩, .int .i64 c] w fun e w' => e = .returned (.string (ba' (List.replicate c 48))) ∧ Below w.heap.size w w' := by
  have := Tryz.strings_Repeat ⟨#[48]⟩ c w (by omega) (by show 1 * c ≤ _; omega)
  have e : ∀ c, Lib.repeatL ([48] : List UInt8) c = List.replicate c 48 := by
    intro c; induction c with
    | zero => rfl
    | succ c ih => rw [Lib.repeatL, ih]; rfl
  simp only [] at this
  rw [e] at this
  exact this
theorem decDigits_len (u : Nat) (h : u ≤ 999999999999999999) : 1 ≤ (Lib.decDigits u).length ∧ (Lib.decDigits u).length ≤ 20 := by
  rw [Lib.decDigits_length]
  by_cases h0 : u = 0
  · subst h0; rw [show Lib.nDigits 0 = 1 by decide +kernel]; omega
  · have := Lib.numDigits_eq u (by omega) (by omega)
    have h2 := Lib.lt_pow_nDigits u
    refine ⟨?_, by split at this <;> omega⟩
    rcases Nat.eq_zero_or_pos (Lib.nDigits u) with h3 | h3
    · rw [h3] at h2; simp at h2; omega
    · exact h3
set_option maxRecDepth 100000 in
set_option maxHeartbeats 4000000 in
theorem format_core (n : Int) (k : Nat) (h : RightZ n k) (w0 : World)
    (HU : Hid (∀ q, Calls Tryz.prog 71 #[.int .u64 (n.natAbs : Int), .int .i64 10] ((w0.alloc (.cells #[.int .i64 n, .int .i64 k] 30)).drewN q) fun e w' => e = .returned (.string (ba' (Lib.decDigits n.natAbs))) ∧
      Below ((w0.alloc (.cells #[.int .i64 n, .int .i64 k] 30)).drewN q).heap.size ((w0.alloc (.cells #[.int .i64 n, .int .i64 k] 30)).drewN q) w')) :
    Calls Tryz.prog 43 #[nv n k] w0 fun e w' => e = .returned (.string (ba' (formatL n k))) ∧ Below w0.heap.size w0 w' := by
  have hl := decDigits_len n.natAbs (by have := h.1; have := h.2.1; omega)
  have hk9 := h.2.2.1
  have hn1 := h.1
  have hn2 := h.2.1
  by_cases hk : k = 0
  · subst hk
    by_cases hn : n < 0
    · have hF : formatL n 0 = 45 :: Lib.decDigits n.natAbs := by unfold formatL sgn; rw [if_pos rfl, if_pos hn]; rfl
      have hw : IntKind.u64.wrap (-IntKind.u64.wrap n) = (n.natAbs : Int) := by rw [IntKind.wrap_u64, IntKind.wrap_u64]; omega
      rw [hF]
      generalize Lib.decDigits n.natAbs = s at *
      generalize (n.natAbs : Int) = u at *
      have happ : (⟨#[45]⟩ : ByteArray) ++ ba' s = ba' (45 :: s) := app_ba [45] s
      have hsz : ((ba' s).size : Int) = s.length := by rw [size_ba]
      have hs2 : (s.length : Int) ≤ 20 := by omega
      have hs3 : (ba' s).size ≤ 20 := by rw [size_ba]; omega
      unfold nv
      clear h hF hl
      go_enter Tryz.func43, Tryz.ntmps43
      go_wp2
      go_quiet (fail)
      go_wp2_with (go_at_call 71; refine (HU.out _).mono ?_; rintro e w1 ⟨rfl, hb1⟩; obtain ⟨hc1, hf1⟩ := bcell hb1; have z1 : w0.heap.size < w1.heap.size := zz hb1 (by simp))
      go_ret
      exact ⟨rfl, by repeat (first | exact Below.refl _ _ | apply ba | apply bd | apply bdr | (refine bt ?_ (by assumption)))⟩
    · have hF : formatL n 0 = Lib.decDigits n.natAbs := by unfold formatL sgn; rw [if_pos rfl, if_neg hn]; rfl
      have hw : IntKind.u64.wrap n = (n.natAbs : Int) := by rw [IntKind.wrap_u64]; omega
      rw [hF]
      generalize Lib.decDigits n.natAbs = s at *
      generalize (n.natAbs : Int) = u at *
      have happ : (⟨#[]⟩ : ByteArray) ++ ba' s = ba' (s) := app_ba [] s
      have hsz : ((ba' s).size : Int) = s.length := by rw [size_ba]
      have hs2 : (s.length : Int) ≤ 20 := by omega
      have hs3 : (ba' s).size ≤ 20 := by rw [size_ba]; omega
      unfold nv
      clear h hF hl
      go_enter Tryz.func43, Tryz.ntmps43
      go_wp2
      go_quiet (fail)
      go_wp2_with (go_at_call 71; refine (HU.out _).mono ?_; rintro e w1 ⟨rfl, hb1⟩; obtain ⟨hc1, hf1⟩ := bcell hb1; have z1 : w0.heap.size < w1.heap.size := zz hb1 (by simp))
      go_ret
      exact ⟨rfl, by repeat (first | exact Below.refl _ _ | apply ba | apply bd | apply bdr | (refine bt ?_ (by assumption)))⟩
  · by_cases hn : n < 0
    · have hF : formatL n k = [45] ++ (padL n k).take ((padL n k).length - k) ++ [46] ++ (padL n k).drop ((padL n k).length - k) := by unfold formatL sgn; rw [if_neg hk, if_pos hn]
      have hw : IntKind.u64.wrap (-IntKind.u64.wrap n) = (n.natAbs : Int) := by rw [IntKind.wrap_u64, IntKind.wrap_u64]; omega
      have hp : padL n k = List.replicate (k + 1 - (Lib.decDigits n.natAbs).length) 48 ++ Lib.decDigits n.natAbs := rfl
      rw [hF]
      generalize padL n k = p at *
      generalize Lib.decDigits n.natAbs = s at *
      generalize (n.natAbs : Int) = u at *
      obtain ⟨c, hc⟩ : ∃ c : Nat, c = k + 1 - s.length := ⟨_, rfl⟩
      rw [← hc] at hp
      have hplen : p.length = c + s.length := by rw [hp, List.length_append, List.length_replicate]
      obtain ⟨a, ha⟩ : ∃ a : Nat, a = p.length - k := ⟨_, rfl⟩
      rw [← ha]
      have hc9 : c ≤ 100 := by omega
      have w1' : IntKind.i64.wrap ((k : Int) + 1) = (k : Int) + 1 := by rw [IntKind.wrap_i64]; omega
      have w2' : IntKind.i64.wrap ((k : Int) + 1 - (s.length : Int)) = (k : Int) + 1 - (s.length : Int) := by rw [IntKind.wrap_i64]; omega
      have hmx : max 0 ((k : Int) + 1 - (s.length : Int)) = (c : Int) := by omega
      have happ1 : ba' (List.replicate c 48) ++ ba' s = ba' p := by rw [app_ba, ← hp]
      have hap : (a : Int) ≤ (p.length : Int) := by omega
      have wat : IntKind.i64.wrap ((p.length : Int) - (k : Int)) = (a : Int) := by rw [IntKind.wrap_i64]; omega
      have ex1 : (ba' p).extract 0 a = ba' (p.take a) := by rw [extract_ba, List.drop_zero]
      have ex2 : (ba' p).extract a p.length = ba' (p.drop a) := by rw [extract_ba, List.take_length]
      have hszp : ((ba' p).size : Int) = p.length := by rw [size_ba]
      have hsz : ((ba' s).size : Int) = s.length := by rw [size_ba]
      have t1 : (p.take a).length ≤ 40 := by rw [List.length_take]; omega
      have t2 : (p.drop a).length ≤ 40 := by rw [List.length_drop]; omega
      have happ2 : (⟨#[45]⟩ : ByteArray) ++ ba' (p.take a) = ba' ([45] ++ p.take a) := app_ba [45] (p.take a)
      have happ3 : ba' ([45] ++ p.take a) ++ (⟨#[46]⟩ : ByteArray) = ba' ([45] ++ p.take a ++ [46]) := app_ba ([45] ++ p.take a) [46]
      have happ4 : ba' ([45] ++ p.take a ++ [46]) ++ ba' (p.drop a) = ba' ([45] ++ p.take a ++ [46] ++ p.drop a) := app_ba _ _
      have f0 : [45] ++ p.take a = ([45] ++ p.take a : List UInt8) := rfl
      obtain ⟨A, hA⟩ : ∃ A : List UInt8, [45] ++ p.take a = A := ⟨_, rfl⟩
      rw [hA] at happ2 happ3 happ4 ⊢
      have hAl : A.length ≤ 41 := by rw [← hA, List.length_append]; simp only [List.length_cons, List.length_nil]; omega
      obtain ⟨B, hB⟩ : ∃ B : List UInt8, A ++ [46] = B := ⟨_, rfl⟩
      rw [hB] at happ3 happ4 ⊢
      have hBl : B.length ≤ 42 := by rw [← hB, List.length_append]; simp only [List.length_cons, List.length_nil]; omega
      obtain ⟨C, hC⟩ : ∃ C : List UInt8, B ++ p.drop a = C := ⟨_, rfl⟩
      rw [hC] at happ4 ⊢
      have z1 : (ba' s).size ≤ 20 := by rw [size_ba]; omega
      have z2 : (ba' (List.replicate c 48)).size ≤ 100 := by rw [size_ba, List.length_replicate]; omega
      have z3 : (ba' (p.take a)).size ≤ 40 := by rw [size_ba]; exact t1
      have z4 : (ba' A).size ≤ 41 := by rw [size_ba]; exact hAl
      have z5 : (ba' B).size ≤ 42 := by rw [size_ba]; exact hBl
      have z6 : (ba' (p.drop a)).size ≤ 40 := by rw [size_ba]; exact t2
      have r1 : ¬ 9223372036854775807 < 1 + (ba' (p.take a)).size := by omega
      have r2 : ¬ 9223372036854775807 < (ba' A).size + 1 := by omega
      have hszN : (ba' p).size = p.length := size_ba p
      have r4 : ¬ 9223372036854775807 < (ba' B).size + ((ba' p).size - a) := by omega
      have ex3 : (ba' p).extract a (ba' p).size = ba' (p.drop a) := by rw [hszN]; exact ex2
      clear hszN
      have r3 : ¬ 9223372036854775807 < (ba' B).size + (ba' (p.drop a)).size := by omega
      have hk0 : ¬ (k : Int) ≤ 0 := by omega
      have hk1 : ¬ (2147483644 : Int) < (k : Int) := by omega
      have ha0 : (0 : Int) ≤ (a : Int) := by omega
      unfold nv
      clear h hF hl hp hc ha hplen hA hB hC t1 t2 hAl hBl f0
      go_enter Tryz.func43, Tryz.ntmps43
      go_wp2
      go_quiet (fail)
      go_wp2_with (first
        | (go_at_call 71; refine (HU.out _).mono ?_; rintro e w1 ⟨rfl, hb1⟩; obtain ⟨hc1, hf1⟩ := bcell hb1; have y1 : w0.heap.size < w1.heap.size := zz hb1 (by simp))
        | (go_at_call 72; refine (repeat_noughts c hc9 _).mono ?_; rintro e w2 ⟨rfl, hb2⟩; obtain ⟨hc2, hf2⟩ := bcell hb2; have y2 : w0.heap.size < w2.heap.size := zz hb2 (by first | assumption | (simp; omega))))
      go_quiet (fail)
      go_wp2
      go_ret
      exact ⟨rfl, by repeat (first | exact Below.refl _ _ | apply ba | apply bd | apply bdr | (refine bt ?_ (by assumption)))⟩
    · have hF : formatL n k = [] ++ (padL n k).take ((padL n k).length - k) ++ [46] ++ (padL n k).drop ((padL n k).length - k) := by unfold formatL sgn; rw [if_neg hk, if_neg hn]
      have hw : IntKind.u64.wrap n = (n.natAbs : Int) := by rw [IntKind.wrap_u64]; omega
      have hp : padL n k = List.replicate (k + 1 - (Lib.decDigits n.natAbs).length) 48 ++ Lib.decDigits n.natAbs := rfl
      rw [hF]
      generalize padL n k = p at *
      generalize Lib.decDigits n.natAbs = s at *
      generalize (n.natAbs : Int) = u at *
      obtain ⟨c, hc⟩ : ∃ c : Nat, c = k + 1 - s.length := ⟨_, rfl⟩
      rw [← hc] at hp
      have hplen : p.length = c + s.length := by rw [hp, List.length_append, List.length_replicate]
      obtain ⟨a, ha⟩ : ∃ a : Nat, a = p.length - k := ⟨_, rfl⟩
      rw [← ha]
      have hc9 : c ≤ 100 := by omega
      have w1' : IntKind.i64.wrap ((k : Int) + 1) = (k : Int) + 1 := by rw [IntKind.wrap_i64]; omega
      have w2' : IntKind.i64.wrap ((k : Int) + 1 - (s.length : Int)) = (k : Int) + 1 - (s.length : Int) := by rw [IntKind.wrap_i64]; omega
      have hmx : max 0 ((k : Int) + 1 - (s.length : Int)) = (c : Int) := by omega
      have happ1 : ba' (List.replicate c 48) ++ ba' s = ba' p := by rw [app_ba, ← hp]
      have hap : (a : Int) ≤ (p.length : Int) := by omega
      have wat : IntKind.i64.wrap ((p.length : Int) - (k : Int)) = (a : Int) := by rw [IntKind.wrap_i64]; omega
      have ex1 : (ba' p).extract 0 a = ba' (p.take a) := by rw [extract_ba, List.drop_zero]
      have ex2 : (ba' p).extract a p.length = ba' (p.drop a) := by rw [extract_ba, List.take_length]
      have hszp : ((ba' p).size : Int) = p.length := by rw [size_ba]
      have hsz : ((ba' s).size : Int) = s.length := by rw [size_ba]
      have t1 : (p.take a).length ≤ 40 := by rw [List.length_take]; omega
      have t2 : (p.drop a).length ≤ 40 := by rw [List.length_drop]; omega
      have happ2 : (⟨#[]⟩ : ByteArray) ++ ba' (p.take a) = ba' ([] ++ p.take a) := app_ba [] (p.take a)
      have happ3 : ba' ([] ++ p.take a) ++ (⟨#[46]⟩ : ByteArray) = ba' ([] ++ p.take a ++ [46]) := app_ba ([] ++ p.take a) [46]
      have happ4 : ba' ([] ++ p.take a ++ [46]) ++ ba' (p.drop a) = ba' ([] ++ p.take a ++ [46] ++ p.drop a) := app_ba _ _
      have f0 : [] ++ p.take a = ([] ++ p.take a : List UInt8) := rfl
      obtain ⟨A, hA⟩ : ∃ A : List UInt8, [] ++ p.take a = A := ⟨_, rfl⟩
      rw [hA] at happ2 happ3 happ4 ⊢
      have hAl : A.length ≤ 41 := by rw [← hA, List.length_append]; simp only [List.length_nil]; omega
      obtain ⟨B, hB⟩ : ∃ B : List UInt8, A ++ [46] = B := ⟨_, rfl⟩
      rw [hB] at happ3 happ4 ⊢
      have hBl : B.length ≤ 42 := by rw [← hB, List.length_append]; simp only [List.length_cons, List.length_nil]; omega
      obtain ⟨C, hC⟩ : ∃ C : List UInt8, B ++ p.drop a = C := ⟨_, rfl⟩
      rw [hC] at happ4 ⊢
      have z1 : (ba' s).size ≤ 20 := by rw [size_ba]; omega
      have z2 : (ba' (List.replicate c 48)).size ≤ 100 := by rw [size_ba, List.length_replicate]; omega
      have z3 : (ba' (p.take a)).size ≤ 40 := by rw [size_ba]; exact t1
      have z4 : (ba' A).size ≤ 41 := by rw [size_ba]; exact hAl
      have z5 : (ba' B).size ≤ 42 := by rw [size_ba]; exact hBl
      have z6 : (ba' (p.drop a)).size ≤ 40 := by rw [size_ba]; exact t2
      have r1 : ¬ 9223372036854775807 < (ba' (p.take a)).size := by omega
      have r2 : ¬ 9223372036854775807 < (ba' A).size + 1 := by omega
      have hszN : (ba' p).size = p.length := size_ba p
      have r4 : ¬ 9223372036854775807 < (ba' B).size + ((ba' p).size - a) := by omega
      have ex3 : (ba' p).extract a (ba' p).size = ba' (p.drop a) := by rw [hszN]; exact ex2
      clear hszN
      have r3 : ¬ 9223372036854775807 < (ba' B).size + (ba' (p.drop a)).size := by omega
      have hk0 : ¬ (k : Int) ≤ 0 := by omega
      have hk1 : ¬ (2147483644 : Int) < (k : Int) := by omega
      have ha0 : (0 : Int) ≤ (a : Int) := by omega
      unfold nv
      clear h hF hl hp hc ha hplen hA hB hC t1 t2 hAl hBl f0
      go_enter Tryz.func43, Tryz.ntmps43
      go_wp2
      go_quiet (fail)
      go_wp2_with (first
        | (go_at_call 71; refine (HU.out _).mono ?_; rintro e w1 ⟨rfl, hb1⟩; obtain ⟨hc1, hf1⟩ := bcell hb1; have y1 : w0.heap.size < w1.heap.size := zz hb1 (by simp))
        | (go_at_call 72; refine (repeat_noughts c hc9 _).mono ?_; rintro e w2 ⟨rfl, hb2⟩; obtain ⟨hc2, hf2⟩ := bcell hb2; have y2 : w0.heap.size < w2.heap.size := zz hb2 (by first | assumption | (simp; omega))))
      go_quiet (fail)
      go_wp2
      go_ret
      exact ⟨rfl, by repeat (first | exact Below.refl _ _ | apply ba | apply bd | apply bdr | (refine bt ?_ (by assumption)))⟩
theorem format_any (n : Int) (k : Nat) (h : RightZ n k) (w0 : World) (htab : Lib.TabIs Tryz.prog w0 "internal/strconv.uint64pow10" .u64 Lib.pow10Tab) :
    Calls Tryz.prog 43 #[nv n k] w0 fun e w' => e = .returned (.string (ba' (formatL n k))) ∧ Below w0.heap.size w0 w' := by
  refine format_core n k h w0 (Lib.hid fun q => ?_)
  have hn1 := h.1
  have hn2 := h.2.1
  refine fu_any n.natAbs (by omega) _ ?_
  have := Lib.tabIs_alloc htab (.cells #[.int .i64 n, .int .i64 k] 30)
  exact this
/-- Of a small number no table is looked at. -/
theorem format_small (n : Int) (k : Nat) (h : RightZ n k) (hs : n.natAbs < 100) (w0 : World) :
    Calls Tryz.prog 43 #[nv n k] w0 fun e w' => e = .returned (.string (ba' (formatL n k))) ∧ Below w0.heap.size w0 w' := by
  refine format_core n k h w0 (Lib.hid fun q => ?_)
  exact (fu_small n.natAbs hs _).mono fun e w' ⟨a, b⟩ => ⟨a, b ▸ Below.refl _ _⟩
end Go.Proofs
