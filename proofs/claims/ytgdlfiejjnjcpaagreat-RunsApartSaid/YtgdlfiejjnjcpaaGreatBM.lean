/-
  PLAIN MATHEMATICS of layer 1's records: widths, sums, bytes of a value, values of bytes. Nothing of the program is named here; no condition.
  PLAIN MATHEMATICS of layer 1's Read: the value of bytes, the values of a record. Nothing of the program is named here; no condition.
  WORDS OF MEMORY for the proofs over layer 1: a slice of ints that reads as a list (nil let in), and what keeps it so. No condition.
  WALKS: isWidth, Size and the reference's Size return what sizeS says of the numbers that the slice reads as. Condition: at most 100000000000000 elements.
  WALKS: fits, most and appendField. Conditions: the width is 1, 2 or 4 (fits); the value is not negative and the row that is appended to is owned, of at most 100000000000000 elements (appendField).
  WALK: mould.Write returns the bytes and the error of writeR, and writes nothing that was there. Conditions: each slice has at most 20000000000000 elements.
  WALK: the reference Write returns the bytes and the error of writeR, and writes nothing that was there. Conditions: each slice has at most 20000000000000 elements.
  PLAIN MATHEMATICS of layer 1: what is written is read again; what is read is written again; a record is cut in two. Conditions stand in each theorem.
  WALKS: mould.field and mould.Read return what decF and readR say, and write nothing that was there. Conditions: the slice has at most 20000000000000 elements, the string at most 1000000000000000 bytes (field: at most 4).
  WALK: the reference Read returns what readR says, and writes nothing that was there. Conditions: the slice has at most 17592186044416 elements, the string at most 1000000000000000 bytes.
  WALKS: Pad, the reference Zeros and Pad, strings.IndexByte and strings.Clone with what they call. Conditions: strings of at most 140737488355328 bytes; Zeros of at most 1000.
-/
import Derived.Test.YtgdlfiejjnjcpaaGreatRows
import Derived.WalkKit
import Derived.WalkSpells
import Derived.WalkLawsBesides
import Derived.Lib.Hide
import Derived.Deep.QuietTactic
import Derived.BigQuiet
import Derived.Laws.BytesArg
import Derived.Laws.BitsAllLaws
import Derived.Lib.Walk
import Derived.Lib.BufferWrite
import Derived.Lib.Bytealg
import Derived.Lib.IndexLaws
import Derived.Lib.UnsafeStr
import Derived.Laws.MakeOwn
import Derived.Laws.IdiomStrings
namespace Go.Proofs.YtgdlfiejjnjcpaaGreat

def wOk (z : Int) : Bool := decide (z = 1 ∨ z = 2 ∨ z = 4)
theorem wOk_t {z : Int} (h : z = 1 ∨ z = 2 ∨ z = 4) : wOk z = true := by simp [wOk, h]
theorem wOk_f {z : Int} (h : ¬ (z = 1 ∨ z = 2 ∨ z = 4)) : wOk z = false := by simp [wOk]; omega
theorem wOk_d {z : Int} (h : wOk z = true) : z = 1 ∨ z = 2 ∨ z = 4 := by simpa [wOk] using h
theorem wOk_n {z : Int} (h : wOk z = false) : ¬ (z = 1 ∨ z = 2 ∨ z = 4) := by simpa [wOk] using h

def okTo (ws : List Int) : Nat → Bool
  | 0 => true
  | k + 1 => okTo ws k && wOk (ws.getD k 0)
def sumTo (ws : List Int) : Nat → Int
  | 0 => 0
  | k + 1 => sumTo ws k + ws.getD k 0
def sizeS (ws : List Int) : Int := if okTo ws ws.length = true then sumTo ws ws.length else -1

theorem okTo_mono (ws : List Int) (k : Nat) : ∀ n, k ≤ n → okTo ws n = true → okTo ws k = true := by
  intro n
  induction n with
  | zero => intro h; have : k = 0 := by omega
            subst this; exact id
  | succ n ih =>
    intro h ho
    by_cases e : k = n + 1
    · subst e; exact ho
    · simp [okTo] at ho; exact ih (by omega) ho.1
theorem okTo_at (ws : List Int) {k n : Nat} (h : k < n) (ho : okTo ws n = true) : wOk (ws.getD k 0) = true := by
  have := okTo_mono ws (k + 1) n h ho
  simp only [okTo, Bool.and_eq_true] at this
  exact this.2
theorem sizeS_bad (ws : List Int) {k : Nat} (h : k < ws.length) (hb : wOk (ws.getD k 0) = false) : sizeS ws = -1 := by
  unfold sizeS
  rw [if_neg]
  intro ho
  have := okTo_at ws h ho
  rw [hb] at this; cases this
theorem sizeS_good (ws : List Int) (h : okTo ws ws.length = true) : sizeS ws = sumTo ws ws.length := by unfold sizeS; rw [if_pos h]
theorem sumTo_bd (ws : List Int) : ∀ k, okTo ws k = true → 0 ≤ sumTo ws k ∧ sumTo ws k ≤ 4 * k := by
  intro k
  induction k with
  | zero => intro _; simp [sumTo]
  | succ k ih =>
    intro h
    simp only [okTo, Bool.and_eq_true] at h
    have h1 := ih h.1
    have h2 := wOk_d h.2
    simp only [sumTo]
    generalize ws.getD k 0 = z at *
    generalize sumTo ws k = y at *
    omega
theorem sizeS_bd (ws : List Int) : -1 ≤ sizeS ws ∧ sizeS ws ≤ 4 * ws.length := by
  unfold sizeS
  split
  · rename_i h; have := sumTo_bd ws _ h; omega
  · omega
theorem sizeS_neg (ws : List Int) : sizeS ws < 0 ↔ ¬ okTo ws ws.length = true := by
  unfold sizeS
  split
  · rename_i h; have := sumTo_bd ws _ h; constructor
    · intro; omega
    · intro h'; exact absurd h h'
  · rename_i h; exact ⟨fun _ => h, fun _ => by omega⟩

def mostOf (z : Int) : Int := if z = 1 then 255 else if z = 2 then 65535 else 4294967295
def fitB (v z : Int) : Bool := decide (0 ≤ v ∧ v ≤ mostOf z)
def fitTo (ws vs : List Int) : Nat → Bool
  | 0 => true
  | k + 1 => fitTo ws vs k && fitB (vs.getD k 0) (ws.getD k 0)
/-- the first n bytes of v, least first. -/
def encF (v : Int) : Nat → List Int
  | 0 => []
  | n + 1 => encF v n ++ [(v / 256 ^ n) % 256]
def encTo (ws vs : List Int) : Nat → List Int
  | 0 => []
  | k + 1 => encTo ws vs k ++ encF (vs.getD k 0) (ws.getD k 0).toNat
theorem encF_len (v : Int) (n : Nat) : (encF v n).length = n := by
  induction n with
  | zero => rfl
  | succ n ih => simp [encF, ih]
theorem encTo_len (ws vs : List Int) : ∀ k, okTo ws k = true → ((encTo ws vs k).length : Int) = sumTo ws k := by
  intro k
  induction k with
  | zero => intro _; rfl
  | succ k ih =>
    intro h
    simp only [okTo, Bool.and_eq_true] at h
    have h1 := ih h.1
    have h2 := wOk_d h.2
    simp only [encTo, sumTo, List.length_append, encF_len]
    generalize ws.getD k 0 = z at *
    omega
theorem fitTo_mono (ws vs : List Int) (k : Nat) : ∀ n, k ≤ n → fitTo ws vs n = true → fitTo ws vs k = true := by
  intro n
  induction n with
  | zero => intro h; have : k = 0 := by omega
            subst this; exact id
  | succ n ih =>
    intro h ho
    by_cases e : k = n + 1
    · subst e; exact ho
    · simp only [fitTo, Bool.and_eq_true] at ho; exact ih (by omega) ho.1
theorem fitTo_at (ws vs : List Int) {k n : Nat} (h : k < n) (ho : fitTo ws vs n = true) : fitB (vs.getD k 0) (ws.getD k 0) = true := by
  have := fitTo_mono ws vs (k + 1) n h ho
  simp only [fitTo, Bool.and_eq_true] at this
  exact this.2
/-- what Write answers: its bytes and its error's number. -/
def writeR (ws vs : List Int) : List Int × Int :=
  if okTo ws ws.length = true ∧ ws.length = vs.length then (if fitTo ws vs ws.length = true then (encTo ws vs ws.length, 0) else ([], 3)) else ([], 1)
theorem writeR_arg {ws vs : List Int} (h : ¬ (okTo ws ws.length = true ∧ ws.length = vs.length)) : writeR ws vs = ([], 1) := by unfold writeR; rw [if_neg h]
theorem writeR_range {ws vs : List Int} (h : okTo ws ws.length = true) (hl : ws.length = vs.length) {k : Nat} (hk : k < ws.length) (hf : fitB (vs.getD k 0) (ws.getD k 0) = false) : writeR ws vs = ([], 3) := by
  unfold writeR
  rw [if_pos ⟨h, hl⟩, if_neg]
  intro ho
  have := fitTo_at ws vs hk ho
  rw [hf] at this; cases this
theorem writeR_ok {ws vs : List Int} (h : okTo ws ws.length = true) (hl : ws.length = vs.length) (hf : fitTo ws vs ws.length = true) : writeR ws vs = (encTo ws vs ws.length, 0) := by
  unfold writeR
  rw [if_pos ⟨h, hl⟩, if_pos hf]

end Go.Proofs.YtgdlfiejjnjcpaaGreat

namespace Go.Proofs.YtgdlfiejjnjcpaaGreat

def bytesOf (s : ByteArray) : List Int := s.data.toList.map (fun b => (b.toNat : Int))
theorem bytesOf_len (s : ByteArray) : (bytesOf s).length = s.size := by rw [bytesOf, List.length_map, Array.length_toList]; rfl
theorem bytesOf_at (s : ByteArray) (i : Nat) (h : i < s.size) : (bytesOf s).getD i 0 = ((s[i]'h).toNat : Int) := by
  have h' : i < s.data.toList.length := by rw [Array.length_toList]; exact h
  simp only [bytesOf, List.getD, List.getElem?_map, List.getElem?_eq_getElem h']
  rfl
theorem bytesOf_bd (s : ByteArray) (i : Nat) : 0 ≤ (bytesOf s).getD i 0 ∧ (bytesOf s).getD i 0 ≤ 255 := by
  rcases Nat.lt_or_ge i s.size with h | h
  · rw [bytesOf_at s i h]; have := (s[i]'h).toNat_lt; omega
  · simp [List.getD, List.getElem?_eq_none (show (bytesOf s).length ≤ i by rw [bytesOf_len]; exact h)]
theorem bytesOf_mem (s : ByteArray) : ∀ b ∈ bytesOf s, 0 ≤ b ∧ b ≤ 255 := by
  intro b hb
  simp only [bytesOf, List.mem_map] at hb
  obtain ⟨x, _, rfl⟩ := hb
  have := x.toNat_lt; omega

/-- the value of n bytes from place a on, least first. -/
def decF (bs : List Int) (a : Nat) : Nat → Int
  | 0 => 0
  | n + 1 => bs.getD a 0 + 256 * decF bs (a + 1) n
theorem decF_bd (bs : List Int) (hb : ∀ i, 0 ≤ bs.getD i 0 ∧ bs.getD i 0 ≤ 255) : ∀ n a, 0 ≤ decF bs a n ∧ decF bs a n < 256 ^ n := by
  intro n
  induction n with
  | zero => intro a; simp [decF]
  | succ n ih =>
    intro a
    have h1 := ih (a + 1)
    have h2 := hb a
    simp only [decF]
    have : (256 : Int) ^ (n + 1) = 256 * 256 ^ n := by rw [Int.pow_succ, Int.mul_comm]
    rw [this]
    generalize (256 : Int) ^ n = p at *
    omega
theorem decF_congr (bs cs : List Int) (a b : Nat) : ∀ n, (∀ i, i < n → bs.getD (a + i) 0 = cs.getD (b + i) 0) → decF bs a n = decF cs b n := by
  intro n
  induction n generalizing a b with
  | zero => intro _; rfl
  | succ n ih =>
    intro h
    simp only [decF]
    have h0 := h 0 (by omega)
    rw [Nat.add_zero, Nat.add_zero] at h0
    rw [h0, ih (a + 1) (b + 1) (fun i hi => by have := h (i + 1) (by omega); rwa [show a + (i + 1) = a + 1 + i by omega, show b + (i + 1) = b + 1 + i by omega] at this)]
def readTo (ws bs : List Int) : Nat → List Int
  | 0 => []
  | k + 1 => readTo ws bs k ++ [decF bs (sumTo ws k).toNat (ws.getD k 0).toNat]
theorem readTo_len (ws bs : List Int) (k : Nat) : (readTo ws bs k).length = k := by
  induction k with
  | zero => rfl
  | succ k ih => simp [readTo, ih]
/-- what Read answers: the values and the error's number. -/
def readR (ws bs : List Int) : List Int × Int :=
  if okTo ws ws.length = true then (if (bs.length : Int) < sumTo ws ws.length then ([], 2) else (readTo ws bs ws.length, 0)) else ([], 1)
theorem readR_arg {ws bs : List Int} (h : ¬ okTo ws ws.length = true) : readR ws bs = ([], 1) := by unfold readR; rw [if_neg h]
theorem readR_short {ws bs : List Int} (h : okTo ws ws.length = true) (h2 : (bs.length : Int) < sumTo ws ws.length) : readR ws bs = ([], 2) := by unfold readR; rw [if_pos h, if_pos h2]
theorem readR_ok {ws bs : List Int} (h : okTo ws ws.length = true) (h2 : ¬ (bs.length : Int) < sumTo ws ws.length) : readR ws bs = (readTo ws bs ws.length, 0) := by unfold readR; rw [if_pos h, if_neg h2]
theorem sumTo_mono (ws : List Int) (k : Nat) : ∀ n, k ≤ n → okTo ws n = true → sumTo ws k ≤ sumTo ws n := by
  intro n
  induction n with
  | zero => intro h _; have : k = 0 := by omega
            subst this; exact Int.le_refl _
  | succ n ih =>
    intro h ho
    by_cases e : k = n + 1
    · subst e; exact Int.le_refl _
    · simp only [okTo, Bool.and_eq_true] at ho
      have h1 := ih (by omega) ho.1
      have h2 := wOk_d ho.2
      simp only [sumTo]
      omega
theorem pow_le4 (n : Nat) (h : n ≤ 4) : (256 : Int) ^ n ≤ 4294967296 := by
  have : n = 0 ∨ n = 1 ∨ n = 2 ∨ n = 3 ∨ n = 4 := by omega
  rcases this with rfl | rfl | rfl | rfl | rfl <;> decide
theorem pow_le3 (n : Nat) (h : n ≤ 3) : (256 : Int) ^ n ≤ 16777216 := by
  have : n = 0 ∨ n = 1 ∨ n = 2 ∨ n = 3 := by omega
  rcases this with rfl | rfl | rfl | rfl <;> decide

end Go.Proofs.YtgdlfiejjnjcpaaGreat

namespace Go.Proofs.YtgdlfiejjnjcpaaGreat
open Go.RowKit

/-- The slice at A with n elements reads as the numbers zs of an int64, and lies below block B. -/
def IntsAt (w : World) (B : Nat) (A : Option Addr) (n : Nat) (zs : List Int) : Prop :=
  zs.length = n ∧ (∀ z ∈ zs, -9223372036854775808 ≤ z ∧ z ≤ 9223372036854775807) ∧
  ∀ k, k < n → ∃ b o, A = some ⟨b, o, none⟩ ∧ b < B ∧ w.cell? ⟨b, o + k, none⟩ = some (.int .i64 (zs.getD k 0))

theorem IntsAt.len {w : World} {B : Nat} {A : Option Addr} {n : Nat} {zs : List Int} (h : IntsAt w B A n zs) : zs.length = n := h.1
theorem IntsAt.at_ {w : World} {B : Nat} {A : Option Addr} {n : Nat} {zs : List Int} (h : IntsAt w B A n zs) {k : Nat} (hk : k < n) :
    ∃ b o, A = some ⟨b, o, none⟩ ∧ b < B ∧ w.cell? ⟨b, o + k, none⟩ = some (.int .i64 (zs.getD k 0)) := h.2.2 k hk
theorem IntsAt.bd {w : World} {B : Nat} {A : Option Addr} {n : Nat} {zs : List Int} (h : IntsAt w B A n zs) (k : Nat) : -9223372036854775808 ≤ zs.getD k 0 ∧ zs.getD k 0 ≤ 9223372036854775807 := by
  rcases Nat.lt_or_ge k zs.length with hl | hl
  · have := h.2.1 zs[k] (List.getElem_mem hl)
    simpa [List.getD, List.getElem?_eq_getElem hl] using this
  · simp [List.getD, List.getElem?_eq_none hl]
theorem IntsAt.keep {w w' : World} {B : Nat} {A : Option Addr} {n : Nat} {zs : List Int} (h : IntsAt w B A n zs) (hk : ∀ p : Addr, p.block < B → w'.cell? p = w.cell? p) : IntsAt w' B A n zs :=
  ⟨h.1, h.2.1, fun k hkn => by
    obtain ⟨b, o, e, hb, hc⟩ := h.2.2 k hkn
    exact ⟨b, o, e, hb, (hk ⟨b, o + k, none⟩ hb).trans hc⟩⟩
theorem IntsAt.more {w : World} {B B' : Nat} {A : Option Addr} {n : Nat} {zs : List Int} (h : IntsAt w B A n zs) (hB : B ≤ B') : IntsAt w B' A n zs :=
  ⟨h.1, h.2.1, fun k hkn => by
    obtain ⟨b, o, e, hb, hc⟩ := h.2.2 k hkn
    exact ⟨b, o, e, by omega, hc⟩⟩
theorem IntsAt.below {w w' : World} {B C : Nat} {A : Option Addr} {n : Nat} {zs : List Int} (h : IntsAt w B A n zs) (hb : Below C w w') (hBC : B ≤ C) : IntsAt w' B A n zs :=
  h.keep fun _ hp => hb.cell (by omega)
theorem IntsAt.alloc {w : World} {B : Nat} {A : Option Addr} {n : Nat} {zs : List Int} (h : IntsAt w B A n zs) (hB : B ≤ w.heap.size) (o : Obj) : IntsAt (w.alloc o) B A n zs :=
  h.keep fun p hp => World.cell?_alloc_lt w o p (by omega)
theorem getD_get? (zs : List Int) (k : Nat) : zs[k]?.getD 0 = zs.getD k 0 := rfl

end Go.Proofs.YtgdlfiejjnjcpaaGreat

namespace Go.Proofs.YtgdlfiejjnjcpaaGreat
open Go.RowKit
theorem ret_bool {a b : Bool} (h : a = b) : Ending.returned (.bool a) = .returned (.bool b) := by rw [h]
theorem ret_int {k : IntKind} {a b : Int} (h : a = b) : Ending.returned (.int k a) = .returned (.int k b) := by rw [h]

set_option maxHeartbeats 400000 in
theorem isWidth_any (z : Int) (w : World) :
    Calls Tryz.prog 144 #[.int .i64 z] w fun e w' => e = .returned (.bool (wOk z)) ∧ w = w' := by
  go_enter Tryz.func144, Tryz.ntmps144
  go_wp2
  all_goals go_ret
  all_goals refine ⟨ret_bool ?_, rfl⟩
  all_goals (simp [wOk]; try omega)
  all_goals (rw [Bool.eq_iff_iff]; simp; try omega)

set_option maxHeartbeats 400000 in
theorem size_any (A : Option Addr) (n c B : Nat) (ws : List Int) (w : World) (hr : IntsAt w B A n ws) (hn : n ≤ 100000000000000) :
    Calls Tryz.prog 125 #[.slice A n c] w fun e w' => e = .returned (.int .i64 (sizeS ws)) ∧ w = w' := by
  go_enter Tryz.func125, Tryz.ntmps125
  go_wp2
  go_loop [3, 8] (fun t i => ∃ k : Nat, k ≤ n ∧ okTo ws k = true ∧ i = .int .i64 k ∧ t = .int .i64 (sumTo ws k)) (fun _ i => n - (intOf i).toNat)
  case atStart => exact ⟨0, Nat.zero_le _, rfl, rfl, rfl⟩
  case round =>
    obtain ⟨k, hk, hok, rfl, rfl⟩ := hrel
    have hbd := sumTo_bd ws k hok
    by_cases hlt : k < n
    · obtain ⟨b, o, rfl, hb, hc⟩ := hr.at_ hlt
      have hbz := hr.bd k
      have hl := hr.len
      cases hw : wOk (ws.getD k 0) with
      | false =>
        have HS := Lib.hid (sizeS_bad ws (by omega) hw)
        have Hw := Lib.hid hw
        have HOK := Lib.hid hok
        clear hw hok hl
        generalize ws.getD k 0 = z at *
        go_wp2_with (go_at_call 144; refine (isWidth_any _ _).mono ?_; rintro e w' ⟨rfl, rfl⟩; rw [Hw.out])
        go_ret
        exact ⟨ret_int HS.out.symm, rfl⟩
      | true =>
        have HS : Hid (okTo ws (k + 1) = true) := by show okTo ws (k + 1) = true; simp only [okTo, hok, hw]; rfl
        have HT : Hid (sumTo ws (k + 1) = sumTo ws k + ws.getD k 0) := by show _ = _; rfl
        have hz := wOk_d hw
        have hz1 : 1 ≤ ws.getD k 0 ∧ ws.getD k 0 ≤ 4 := by omega
        have Hw := Lib.hid hw
        clear hw hok hl hz hbz
        generalize ws.getD k 0 = z at *
        go_wp2_with (go_at_call 144; refine (isWidth_any _ _).mono ?_; rintro e w' ⟨rfl, rfl⟩; rw [Hw.out])
        go_round
        case rel => exact ⟨k + 1, by omega, HS.out, by go_num, by rw [HT.out]⟩
        case measure => simp [intOf]; omega
    · have hkn : k = n := by omega
      subst hkn
      have HS := Lib.hid (sizeS_good ws (by rw [hr.len]; exact hok))
      have HL := Lib.hid hr.len
      clear hok
      go_wp2
      go_ret
      exact ⟨ret_int (by rw [HS.out, HL.out]), rfl⟩

end Go.Proofs.YtgdlfiejjnjcpaaGreat

namespace Go.Proofs.YtgdlfiejjnjcpaaGreat
open Go.RowKit

theorem fit1 (v : Int) (h0 : 0 ≤ v) : (v / 256 == 0) = fitB v 1 := by rw [Bool.eq_iff_iff]; simp [fitB, mostOf]; omega
theorem fit2 (v : Int) (h0 : 0 ≤ v) : (v / 65536 == 0) = fitB v 2 := by rw [Bool.eq_iff_iff]; simp [fitB, mostOf]; omega
theorem fit4 (v : Int) (h0 : 0 ≤ v) : (v / 4294967296 == 0) = fitB v 4 := by rw [Bool.eq_iff_iff]; simp [fitB, mostOf]; omega
theorem fitn (v z : Int) (h0 : ¬ 0 ≤ v) : fitB v z = false := by simp [fitB]; omega

set_option maxHeartbeats 400000 in
theorem fits_any (v z : Int) (w : World) (hz : wOk z = true) (_hv : -9223372036854775808 ≤ v ∧ v ≤ 9223372036854775807) :
    Calls Tryz.prog 126 #[.int .i64 v, .int .i64 z] w fun e w' => e = .returned (.bool (fitB v z)) ∧ w = w' := by
  have hz := wOk_d hz
  by_cases h0 : 0 ≤ v
  · rcases hz with rfl | rfl | rfl
    · have F := Lib.hid (fit1 v h0)
      go_enter Tryz.func126, Tryz.ntmps126
      go_wp2
      go_ret
      exact ⟨ret_bool F.out, rfl⟩
    · have F := Lib.hid (fit2 v h0)
      go_enter Tryz.func126, Tryz.ntmps126
      go_wp2
      go_ret
      exact ⟨ret_bool F.out, rfl⟩
    · have F := Lib.hid (fit4 v h0)
      go_enter Tryz.func126, Tryz.ntmps126
      go_wp2
      go_ret
      exact ⟨ret_bool F.out, rfl⟩
  · have F := Lib.hid (fitn v z h0)
    have h1 : decide (0 ≤ v) = false := by simpa using h0
    clear hz
    go_enter Tryz.func126, Tryz.ntmps126
    go_wp2
    go_ret
    exact ⟨ret_bool F.out.symm, rfl⟩

theorem quot_step (v : Int) (k : Nat) : v / 256 ^ (k + 1) = v / 256 ^ k / 256 := by
  rw [Int.pow_succ, Int.ediv_ediv_of_nonneg (Int.pow_nonneg (by decide))]
theorem quot_bd (v : Int) (k : Nat) (h0 : 0 ≤ v) (h1 : v ≤ 9223372036854775807) : 0 ≤ v / 256 ^ k ∧ v / 256 ^ k ≤ 9223372036854775807 := by
  have hp : (0 : Int) < 256 ^ k := Int.pow_pos (by decide)
  refine ⟨Int.ediv_nonneg h0 (by omega), ?_⟩
  have : v / 256 ^ k ≤ v := Int.ediv_le_self _ h0
  omega

theorem Tryz.info5 : (Tryz.prog.info? 5).map (fun i => (i.zero, i.size, i.bytes)) = some (some (.int .u8 0), 1, 1) := by kernel_rfl
theorem Tryz.info3 : (Tryz.prog.info? 3).map (fun i => (i.zero, i.size, i.bytes)) = some (some (.int .i64 0), 1, 8) := by kernel_rfl

set_option maxHeartbeats 400000 in
theorem appendField_any (rv : Value) (v : Int) (z m base : Nat) (xs : List Value) (w : World) (hz : z ≤ 4) (h0 : 0 ≤ v ∧ v ≤ 9223372036854775807)
    (hm : m ≤ 100000000000000) (hb : base ≤ w.heap.size) (hown : w.ownsRow base 5 1 rv m xs) :
    Calls Tryz.prog 127 #[rv, .int .i64 v, .int .i64 z] w fun e w' => ∃ rv', e = .returned rv' ∧ w'.ownsRow base 5 1 rv' (m + z) (xs ++ (encF v z).map (.int .u8)) ∧ Below base w w' := by
  obtain ⟨i0, hi, hz0, hz1, hz2⟩ := info_parts Tryz.info5
  go_enter Tryz.func127, Tryz.ntmps127
  go_wp2
  go_loopw [0, 1, 8] (fun r vv i wr => ∃ k : Nat, k ≤ z ∧ i = .int .i64 k ∧ vv = .int .i64 (v / 256 ^ k) ∧ wr.ownsRow base 5 1 r (m + k) (xs ++ (encF v k).map (.int .u8)) ∧ Below base w wr) (fun _ _ i _ => z - (intOf i).toNat)
  case atStart => exact ⟨0, Nat.zero_le _, rfl, by simp, by simpa [encF] using hown, Below.refl _ _⟩
  case round =>
    obtain ⟨k, hk, rfl, rfl, hown', hbel⟩ := hrel
    have HQ := Lib.hid (quot_step v k)
    have HE : Hid (encF v (k + 1) = encF v k ++ [(v / 256 ^ k) % 256]) := by show _ = _; rfl
    have hq := quot_bd v k h0.1 h0.2
    generalize v / 256 ^ k = q at *
    clear hown
    by_cases hlt : k < z
    · go_wp2_with (first | (at_builtin; refine wpList_append_own _ rfl _ _ 112 rfl base 5 i0 (.int .u8 0) 1 1 Tryz.underlying112 hi hz0 hz1 hz2 rfl (by decide) _ _ _ rfl (hown'.alloc _) ⟨wr.heap.size, 0, none⟩ 1 1 [.int .u8 (q % 256)] rfl rfl (cell_one_new _ _ _) ?c2 ?c3 ?c4 ?c5 ?_))
      case c2 => intro u hu; simp at hu; subst hu; rfl
      case c3 => unfold maxLen; omega
      case c4 => omega
      case c5 => have := hbel.size; simp; omega
      intro v' w1 hown2 hgrow _
      have hb2 : Below base w w1 := (hbel.alloc (by have := hbel.size; omega) _).grown hgrow (by have := hbel.size; simp; omega) (fun g hg => (hown'.lt g hg).1)
      clear hgrow hown' hbel
      go_wp2
      go_roundw
      case rel => exact ⟨k + 1, by omega, by go_num, by rw [HQ.out], by rw [HE.out]; simpa [Nat.add_assoc] using hown2, hb2⟩
      case measure => simp [intOf]; omega
    · have hkn : k = z := by omega
      subst hkn
      go_wp2
      go_ret
      exact ⟨_, rfl, hown', hbel⟩
end Go.Proofs.YtgdlfiejjnjcpaaGreat

namespace Go.Proofs.YtgdlfiejjnjcpaaGreat
open Go.RowKit

theorem conv_own {w : World} {base n : Nat} {v : Value} {xs : List Int} (h : w.ownsRow base 5 1 v n (xs.map (.int .u8))) :
    (convert 112 9 v).run Tryz.prog w = .ok (.string (strOfNums xs)) w := by
  have hl : xs.length = n := by have := h.1; simpa using this
  rcases h.2 with ⟨rfl, h0⟩ | ⟨g, cap, cur, rfl, _, _, _⟩
  · have : xs = [] := List.eq_nil_of_length_eq_zero (by omega)
    subst this
    rw [run_convert_bytes_nil w 112 5 Tryz.underlying112 Tryz.underlying5 0 0 9 Tryz.underlying9]
    rfl
  · refine run_convert_bytes_arg w 112 5 Tryz.underlying112 Tryz.underlying5 g 0 n cap xs hl (fun i hi => ?_) 9 Tryz.underlying9
    have hc := h.cells (g := g) rfl i (.int .u8 (xs.getD i 0)) (by simp [List.getD, List.getElem?_eq_getElem (show i < xs.length by omega)])
    rw [Go.WideShapes.add_plain] at hc
    exact hc

set_option maxHeartbeats 1000000 in
theorem write_any (A A' : Option Addr) (n c m c' B : Nat) (ws vs : List Int) (w : World) (hr : IntsAt w B A n ws) (hr' : IntsAt w B A' m vs) (hB : B ≤ w.heap.size) (hn : n ≤ 20000000000000) (hm : m ≤ 20000000000000) :
    Calls Tryz.prog 90 #[.slice A n c, .slice A' m c'] w fun e w' => e = .returned (.tuple #[.string (strOfNums (writeR ws vs).1), .int .i64 (writeR ws vs).2]) ∧ Below w.heap.size w w' := by
  by_cases hok : okTo ws ws.length = true
  · by_cases hl : n = m
    · subst hl
      obtain ⟨i0, hi, hz0, hz1, hz2⟩ := info_parts Tryz.info5
      have hsz := sizeS_good ws hok
      have hsb := sumTo_bd ws ws.length hok
      rw [← hsz, hr.len] at hsb
      have hsn : decide (sizeS ws < 0) = false := by simp; omega
      have hne : ((n : Int) != (n : Int)) = false := by simp
      have HOK := Lib.hid hok
      have HS := Lib.hid hsz
      have HL := Lib.hid hr.len
      have HL' := Lib.hid hr'.len
      clear hok hsz
      go_enter Tryz.func90, Tryz.ntmps90
      go_wp2_with fail
      refine (size_any A n c B ws w hr (by omega)).mono ?_
      rintro e w' ⟨rfl, rfl⟩
      generalize hszv : sizeS ws = sz at *
      have HSZ := Lib.hid hszv
      clear hszv
      obtain ⟨szn, rfl⟩ := Int.eq_ofNat_of_zero_le hsb.1
      go_wp2_with (first | (at_make; refine wpList_make_own _ rfl _ _ 112 rfl w.heap.size 5 i0 (.int .u8 0) 1 Tryz.underlying112 hi hz0 hz1 _ _ _ szn rfl rfl rfl (by rw [hz2]; omega) (by unfold maxLen; omega) (Nat.le_refl _) ?_; intro w1 hown1 hgrow1))
      have hb1 : Below w.heap.size w w1 := (Below.refl _ _).grown hgrow1 (Nat.le_refl _) (by intro k hk; cases hk)
      clear hgrow1
      go_loopw [7, 25] (fun r i wr => ∃ k : Nat, k ≤ n ∧ i = .int .i64 k ∧ fitTo ws vs k = true ∧ wr.ownsRow w.heap.size 5 1 r (encTo ws vs k).length ((encTo ws vs k).map (.int .u8)) ∧ Below w.heap.size w wr) (fun _ i _ => n - (intOf i).toNat)
      case atStart => exact ⟨0, Nat.zero_le _, rfl, rfl, by simpa [encTo] using hown1, hb1⟩
      case round =>
        obtain ⟨k, hk, rfl, hfit, hown, hbel⟩ := hrel
        clear hown1 hb1
        by_cases hlt : k < n
        · have hrk := hr.below hbel hB
          have hrk' := hr'.below hbel hB
          obtain ⟨b, o, rfl, hb, hc⟩ := hrk.at_ hlt
          obtain ⟨b', o', rfl, hb', hc'⟩ := hrk'.at_ hlt
          have hwk := okTo_at ws (k := k) (n := ws.length) (by rw [HL.out]; exact hlt) HOK.out
          have hvb := hr'.bd k
          have hel := encTo_len ws vs k (okTo_mono ws k ws.length (by rw [HL.out]; exact hk) HOK.out)
          have hel2 := (sumTo_bd ws k (okTo_mono ws k ws.length (by rw [HL.out]; exact hk) HOK.out)).2
          have hlen : (encTo ws vs k).length ≤ 80000000000000 := by omega
          clear hel hel2 hrk hrk'
          cases hf : fitB (vs.getD k 0) (ws.getD k 0) with
          | false =>
            have HW := Lib.hid (writeR_range HOK.out (HL.out.trans HL'.out.symm) (by rw [HL.out]; exact hlt) hf)
            have Hf := Lib.hid hf
            have Hwk := Lib.hid hwk
            clear hf hfit hwk
            generalize ws.getD k 0 = z at *
            generalize vs.getD k 0 = q at *
            go_wp2_with (go_at_call 126; refine (fits_any _ _ _ Hwk.out hvb).mono ?_; rintro e w' ⟨rfl, rfl⟩; rw [Hf.out])
            go_ret2
            exact ⟨by rw [HW.out]; rfl, hbel⟩
          | true =>
            have HF : Hid (fitTo ws vs (k + 1) = true) := by show fitTo ws vs (k + 1) = true; simp only [fitTo, hfit, hf]; rfl
            have HE : Hid (encTo ws vs (k + 1) = encTo ws vs k ++ encF (vs.getD k 0) (ws.getD k 0).toNat) := by show _ = _; rfl
            have hq0 : 0 ≤ vs.getD k 0 := by have := hf; simp only [fitB, decide_eq_true_eq] at this; exact this.1
            have hz := wOk_d hwk
            have hz1 : 0 ≤ ws.getD k 0 ∧ ws.getD k 0 ≤ 4 := by omega
            have Hf := Lib.hid hf
            have Hwk := Lib.hid hwk
            clear hf hfit hwk hz
            generalize ws.getD k 0 = z at *
            generalize vs.getD k 0 = q at *
            obtain ⟨zn, rfl⟩ := Int.eq_ofNat_of_zero_le hz1.1
            go_wp2_with (first
              | (go_at_call 126; refine (fits_any _ _ _ Hwk.out hvb).mono ?_; rintro e w' ⟨rfl, rfl⟩; rw [Hf.out])
              | (go_at_call 127; refine (appendField_any _ _ zn _ w.heap.size _ _ (by omega) ⟨hq0, hvb.2⟩ (by omega) hbel.size hown).mono ?_; rintro e w2 ⟨r2, rfl, hown2, hb2⟩))
            have hb3 := hbel.trans hb2
            go_roundw
            case rel => exact ⟨k + 1, by omega, by go_num, HF.out, by rw [HE.out]; simpa [encF_len] using hown2, hb3⟩
            case measure => simp [intOf]; omega
        · have hkn : k = n := by omega
          subst hkn
          have HW := Lib.hid (writeR_ok HOK.out (HL.out.trans HL'.out.symm) (by rw [HL.out]; exact hfit))
          have hcv := conv_own hown
          clear hfit
          go_wp2
          go_ret2
          exact ⟨by simp only [HW.out, HL.out]; rfl, hbel⟩
    · have hsb := sizeS_good ws hok
      have hsb' := sumTo_bd ws ws.length hok
      rw [← hsb] at hsb'
      have hsn : decide (sizeS ws < 0) = false := by simp; omega
      have hne : ((m : Int) != (n : Int)) = true := bne_iff_ne.2 (by omega)
      have HW := Lib.hid (writeR_arg (ws := ws) (vs := vs) (by rw [hr.len, hr'.len]; exact fun h => hl h.2))
      clear hsb hsb' hok
      go_enter Tryz.func90, Tryz.ntmps90
      go_wp2_with (go_at_call 125; refine (size_any A n c B ws w hr (by omega)).mono ?_; rintro e w' ⟨rfl, rfl⟩)
      go_ret2
      exact ⟨by rw [HW.out]; rfl, Below.refl _ _⟩
  · have hsn : decide (sizeS ws < 0) = true := by simp only [decide_eq_true_eq]; exact (sizeS_neg ws).2 hok
    have HW := Lib.hid (writeR_arg (ws := ws) (vs := vs) (fun h => hok h.1))
    clear hok
    go_enter Tryz.func90, Tryz.ntmps90
    go_wp2_with (go_at_call 125; refine (size_any A n c B ws w hr (by omega)).mono ?_; rintro e w' ⟨rfl, rfl⟩)
    go_ret2
    exact ⟨by rw [HW.out]; rfl, Below.refl _ _⟩
end Go.Proofs.YtgdlfiejjnjcpaaGreat

namespace Go.Proofs.YtgdlfiejjnjcpaaGreat
open Go.RowKit

theorem quiet_same {P : Program} {f : FuncId} {args : Array Value} {w : World} {n : Nat} {v : Value} (h : Calls P f args (w.drewN n) fun e w' => e = .returned v ∧ w.drewN n = w') :
    Calls P f args (w.drewN n) fun e w'' => e = .returned v ∧ ∃ m, w'' = w.drewN m := h.mono fun _ _ ⟨he, hm⟩ => ⟨he, n, hm.symm⟩

theorem bel_drewN {B : Nat} {a w : World} (h : Below B a w) (n : Nat) : Below B a (w.drewN n) := ⟨h.os, h.tape, h.output, h.size, h.block⟩
theorem IntsAt.drewN {w : World} {B : Nat} {A : Option Addr} {n : Nat} {zs : List Int} (h : IntsAt w B A n zs) (k : Nat) : IntsAt (w.drewN k) B A n zs := h

end Go.Proofs.YtgdlfiejjnjcpaaGreat

namespace Go.Proofs.YtgdlfiejjnjcpaaGreat

theorem gd_left (a b : List Int) (i : Nat) (h : i < a.length) : (a ++ b).getD i 0 = a.getD i 0 := by simp only [List.getD, List.getElem?_append_left h]
theorem gd_right (a b : List Int) (i : Nat) (h : a.length ≤ i) : (a ++ b).getD i 0 = b.getD (i - a.length) 0 := by simp only [List.getD, List.getElem?_append_right h]
theorem mod_step (v : Int) (n : Nat) (h : 0 ≤ v) : v % 256 ^ (n + 1) = v % 256 + 256 * (v / 256 % 256 ^ n) := by
  obtain ⟨m, rfl⟩ := Int.eq_ofNat_of_zero_le h
  have := @Nat.mod_mul 256 (256 ^ n) m
  have e : (256 : Nat) ^ (n + 1) = 256 * 256 ^ n := by rw [Nat.pow_succ, Nat.mul_comm]
  rw [← e] at this
  have h2 : (((m % 256 ^ (n + 1) : Nat) : Int)) = ((m % 256 + 256 * (m / 256 % 256 ^ n) : Nat) : Int) := by rw [this]
  simpa using h2
theorem div_step (v : Int) (n : Nat) : v / 256 ^ (n + 1) = v / 256 / 256 ^ n := by
  rw [Int.pow_succ, Int.mul_comm, Int.ediv_ediv_of_nonneg (by decide)]
theorem dec_enc (l : List Int) : ∀ (n a : Nat) (v : Int), 0 ≤ v → (∀ i, i < n → l.getD (a + i) 0 = (v / 256 ^ i) % 256) → decF l a n = v % 256 ^ n := by
  intro n
  induction n with
  | zero => intro a v _ _; simp [decF, Int.emod_one]
  | succ n ih =>
    intro a v hv h
    rw [mod_step v n hv]
    simp only [decF]
    have h0 := h 0 (by omega)
    rw [Nat.add_zero, Int.pow_zero, Int.ediv_one] at h0
    rw [h0, ih (a + 1) (v / 256) (Int.ediv_nonneg hv (by decide)) (fun i hi => by
      have := h (i + 1) (by omega)
      rw [show a + (i + 1) = a + 1 + i by omega, div_step] at this
      exact this)]
theorem encF_get (v : Int) : ∀ (n i : Nat), i < n → (encF v n).getD i 0 = (v / 256 ^ i) % 256 := by
  intro n
  induction n with
  | zero => intro i h; omega
  | succ n ih =>
    intro i h
    simp only [encF]
    by_cases hi : i < n
    · rw [gd_left _ _ _ (by rw [encF_len]; exact hi)]
      exact ih i hi
    · have : i = n := by omega
      subst this
      rw [gd_right _ _ _ (by rw [encF_len]; exact Nat.le_refl _), encF_len]
      simp
theorem encTo_get (ws vs : List Int) : ∀ (n k i : Nat), okTo ws n = true → k < n → i < (ws.getD k 0).toNat → (encTo ws vs n).getD ((sumTo ws k).toNat + i) 0 = (vs.getD k 0 / 256 ^ i) % 256 := by
  intro n
  induction n with
  | zero => intro k i _ h; omega
  | succ n ih =>
    intro k i ho h hi
    have ho' : okTo ws n = true := okTo_mono ws n (n + 1) (by omega) ho
    have hl := encTo_len ws vs n ho'
    simp only [encTo]
    by_cases hk : k < n
    · have h1 := sumTo_mono ws (k + 1) n hk ho'
      have h2 := sumTo_bd ws k (okTo_mono ws k n (by omega) ho')
      simp only [sumTo] at h1
      rw [gd_left _ _ _ (by omega)]
      exact ih k i ho' hk hi
    · have : k = n := by omega
      subst this
      have h2 := sumTo_bd ws k ho'
      rw [gd_right _ _ _ (by omega), show (sumTo ws k).toNat + i - (encTo ws vs k).length = i by omega]
      exact encF_get _ _ _ hi
theorem fit_lt {v z : Int} (hz : wOk z = true) (h : fitB v z = true) : 0 ≤ v ∧ v < 256 ^ z.toNat := by
  have h1 := wOk_d hz
  simp only [fitB, decide_eq_true_eq] at h
  refine ⟨h.1, ?_⟩
  rcases h1 with rfl | rfl | rfl
  · have := h.2; simp [mostOf] at this; show v < 256 ^ 1; omega
  · have := h.2; simp [mostOf] at this; show v < 256 ^ 2; omega
  · have := h.2; simp [mostOf] at this; show v < 256 ^ 4; omega
theorem lt_fit {v z : Int} (hz : wOk z = true) (h0 : 0 ≤ v) (h : v < 256 ^ z.toNat) : fitB v z = true := by
  have h1 := wOk_d hz
  simp only [fitB, decide_eq_true_eq]
  refine ⟨h0, ?_⟩
  rcases h1 with rfl | rfl | rfl
  · have : v < 256 ^ 1 := h; simp [mostOf]; omega
  · have : v < 256 ^ 2 := h; simp [mostOf]; omega
  · have : v < 256 ^ 4 := h; simp [mostOf]; omega
theorem read_written (ws vs ms : List Int) (ho : okTo ws ws.length = true) (hl : ws.length = vs.length) (hf : fitTo ws vs ws.length = true) :
    readTo ws (encTo ws vs ws.length ++ ms) ws.length = vs := by
  have key : ∀ k, k ≤ ws.length → readTo ws (encTo ws vs ws.length ++ ms) k = vs.take k := by
    intro k
    induction k with
    | zero => intro _; simp [readTo]
    | succ k ih =>
      intro hk
      have hz := okTo_at ws (k := k) (n := ws.length) (by omega) ho
      have hz' := wOk_d hz
      have hfit := fit_lt hz (fitTo_at ws vs (k := k) (by omega) hf)
      have hlen := encTo_len ws vs ws.length ho
      have hs := sumTo_mono ws (k + 1) ws.length hk ho
      have hs0 := sumTo_bd ws k (okTo_mono ws k ws.length (by omega) ho)
      simp only [sumTo] at hs
      simp only [readTo]
      rw [ih (by omega), dec_enc _ _ _ (vs.getD k 0) hfit.1 (fun i hi => by
        rw [gd_left _ _ _ (by omega)]
        exact encTo_get ws vs ws.length k i ho (by omega) hi), Int.emod_eq_of_lt hfit.1 hfit.2]
      rw [List.take_add_one, List.getElem?_eq_getElem (show k < vs.length by omega)]
      simp [List.getD, List.getElem?_eq_getElem (show k < vs.length by omega)]
  rw [key ws.length (Nat.le_refl _), List.take_of_length_le (by omega)]
/-- P1.2, first half: a record that was written, whatever stands behind it, is read again. -/
theorem readR_written (ws vs ms : List Int) (h : (writeR ws vs).2 = 0) : readR ws ((writeR ws vs).1 ++ ms) = (vs, 0) ∧ ((writeR ws vs).1.length : Int) = sizeS ws := by
  unfold writeR at h ⊢
  split at h
  · rename_i hc
    split at h
    · rename_i hf
      rw [if_pos hc, if_pos hf]
      have hlen := encTo_len ws vs ws.length hc.1
      refine ⟨?_, by rw [sizeS_good ws hc.1]; exact hlen⟩
      rw [readR_ok hc.1 (by simp only [List.length_append]; omega), read_written ws vs ms hc.1 hc.2 hf]
    · simp at h
  · simp at h

theorem encF_cons (v : Int) : ∀ n, encF v (n + 1) = v % 256 :: encF (v / 256) n := by
  intro n
  induction n with
  | zero => simp [encF]
  | succ n ih =>
    rw [show encF v (n + 1 + 1) = encF v (n + 1) ++ [(v / 256 ^ (n + 1)) % 256] from rfl, ih, div_step]
    rfl
theorem enc_dec (l : List Int) (hb : ∀ i, 0 ≤ l.getD i 0 ∧ l.getD i 0 ≤ 255) : ∀ n a, a + n ≤ l.length → encF (decF l a n) n = (l.drop a).take n := by
  intro n
  induction n with
  | zero => intro a _; simp [encF]
  | succ n ih =>
    intro a ha
    have h1 := hb a
    rw [encF_cons, decF]
    have e1 : (l.getD a 0 + 256 * decF l (a + 1) n) % 256 = l.getD a 0 := by omega
    have e2 : (l.getD a 0 + 256 * decF l (a + 1) n) / 256 = decF l (a + 1) n := by omega
    rw [e1, e2, ih (a + 1) (by omega), List.drop_eq_getElem_cons (show a < l.length by omega), List.take_succ_cons]
    simp [List.getD, List.getElem?_eq_getElem (show a < l.length by omega)]
theorem readTo_get (ws bs : List Int) : ∀ n k, k < n → (readTo ws bs n).getD k 0 = decF bs (sumTo ws k).toNat (ws.getD k 0).toNat := by
  intro n
  induction n with
  | zero => intro k h; omega
  | succ n ih =>
    intro k h
    simp only [readTo]
    by_cases hk : k < n
    · rw [gd_left _ _ _ (by rw [readTo_len]; exact hk)]; exact ih k hk
    · have : k = n := by omega
      subst this
      rw [gd_right _ _ _ (by rw [readTo_len]; exact Nat.le_refl _), readTo_len]
      simp
theorem write_read (ws bs : List Int) (hb : ∀ i, 0 ≤ bs.getD i 0 ∧ bs.getD i 0 ≤ 255) (ho : okTo ws ws.length = true) (hs : ¬ (bs.length : Int) < sumTo ws ws.length) :
    ∀ k, k ≤ ws.length → fitTo ws (readTo ws bs ws.length) k = true ∧ encTo ws (readTo ws bs ws.length) k = bs.take (sumTo ws k).toNat := by
  intro k
  induction k with
  | zero => intro _; simp [fitTo, encTo, sumTo]
  | succ k ih =>
    intro hk
    obtain ⟨h1, h2⟩ := ih (by omega)
    have hz := okTo_at ws (k := k) (n := ws.length) (by omega) ho
    have hz' := wOk_d hz
    have hs1 := sumTo_mono ws (k + 1) ws.length hk ho
    have hs0 := sumTo_bd ws k (okTo_mono ws k ws.length (by omega) ho)
    simp only [sumTo] at hs1
    have hd := decF_bd bs hb (ws.getD k 0).toNat (sumTo ws k).toNat
    refine ⟨?_, ?_⟩
    · simp only [fitTo, h1, readTo_get ws bs ws.length k (by omega), lt_fit hz hd.1 hd.2, Bool.and_self]
    · simp only [encTo, h2, readTo_get ws bs ws.length k (by omega), sumTo]
      rw [enc_dec bs hb _ _ (by omega), show (sumTo ws k + ws.getD k 0).toNat = (sumTo ws k).toNat + (ws.getD k 0).toNat by omega, List.take_add]
/-- P1.2, second half: what is read is written as the bytes that were read. -/
theorem writeR_read (ws bs : List Int) (hb : ∀ i, 0 ≤ bs.getD i 0 ∧ bs.getD i 0 ≤ 255) (h : (readR ws bs).2 = 0) : ∃ k, k ≤ bs.length ∧ writeR ws (readR ws bs).1 = (bs.take k, 0) := by
  unfold readR at h ⊢
  split at h
  · rename_i ho
    split at h
    · simp at h
    · rename_i hs
      rw [if_pos ho, if_neg hs]
      obtain ⟨h1, h2⟩ := write_read ws bs hb ho hs ws.length (Nat.le_refl _)
      have := sumTo_bd ws ws.length ho
      refine ⟨(sumTo ws ws.length).toNat, by omega, ?_⟩
      rw [writeR_ok ho (by rw [readTo_len]) h1, h2]
  · simp at h

/-- the moulds one behind the other. -/
theorem okTo_take (ws : List Int) (k : Nat) : ∀ n, n ≤ k → okTo (ws.take k) n = okTo ws n := by
  intro n
  induction n with
  | zero => intro _; rfl
  | succ n ih => intro h; simp only [okTo, ih (by omega)]; congr 2; simp [List.getD, show n < k by omega]
theorem getD_take (ws : List Int) {k n : Nat} (h : n < k) : (ws.take k).getD n 0 = ws.getD n 0 := by simp [List.getD, h]
theorem getD_drop (ws : List Int) (k n : Nat) : (ws.drop k).getD n 0 = ws.getD (k + n) 0 := by simp [List.getD, List.getElem?_drop]
theorem fitTo_take (ws vs : List Int) (k : Nat) : ∀ n, n ≤ k → fitTo (ws.take k) (vs.take k) n = fitTo ws vs n ∧ encTo (ws.take k) (vs.take k) n = encTo ws vs n := by
  intro n
  induction n with
  | zero => intro _; exact ⟨rfl, rfl⟩
  | succ n ih =>
    intro h
    have := ih (by omega)
    simp only [fitTo, encTo, this.1, this.2, getD_take ws (show n < k by omega), getD_take vs (show n < k by omega), and_self]
theorem drop_all (ws vs : List Int) (k : Nat) : ∀ n, okTo ws (k + n) = true → fitTo ws vs (k + n) = true →
    okTo (ws.drop k) n = true ∧ fitTo (ws.drop k) (vs.drop k) n = true ∧ encTo ws vs k ++ encTo (ws.drop k) (vs.drop k) n = encTo ws vs (k + n) := by
  intro n
  induction n with
  | zero => intro _ _; simp [okTo, fitTo, encTo]
  | succ n ih =>
    intro h1 h2
    rw [← Nat.add_assoc] at h1 h2
    simp only [okTo, Bool.and_eq_true] at h1
    simp only [fitTo, Bool.and_eq_true] at h2
    obtain ⟨a, b, c⟩ := ih h1.1 h2.1
    simp only [okTo, fitTo, encTo, getD_drop, a, b, h1.2, h2.2, Bool.and_self, true_and]
    rw [← List.append_assoc, c]
    rfl
/-- a record of two moulds, one behind the other, is the first one's and the second one's. -/
theorem writeR_split (ws vs : List Int) (k : Nat) (hk : k ≤ ws.length) (h : (writeR ws vs).2 = 0) :
    (writeR (ws.take k) (vs.take k)).2 = 0 ∧ (writeR (ws.drop k) (vs.drop k)).2 = 0 ∧ (writeR (ws.take k) (vs.take k)).1 ++ (writeR (ws.drop k) (vs.drop k)).1 = (writeR ws vs).1 := by
  unfold writeR at h
  split at h
  · rename_i hc
    split at h
    · rename_i hf
      obtain ⟨ho, hl⟩ := hc
      have hk' : k ≤ vs.length := by omega
      have e1 : (ws.take k).length = k := by simp; omega
      have ha := fitTo_take ws vs k k (Nat.le_refl _)
      have hw1 : writeR (ws.take k) (vs.take k) = (encTo ws vs k, 0) := by
        rw [writeR_ok (by rw [e1, okTo_take ws k k (Nat.le_refl _)]; exact okTo_mono ws k _ hk ho) (by simp; omega) (by rw [e1, ha.1]; exact fitTo_mono ws vs k _ hk hf), e1, ha.2]
      obtain ⟨d1, d2, d3⟩ := drop_all ws vs k (ws.length - k) (by rw [show k + (ws.length - k) = ws.length by omega]; exact ho) (by rw [show k + (ws.length - k) = ws.length by omega]; exact hf)
      have e2 : (ws.drop k).length = ws.length - k := by simp
      have hw2 : writeR (ws.drop k) (vs.drop k) = (encTo (ws.drop k) (vs.drop k) (ws.length - k), 0) := by
        rw [writeR_ok (by rw [e2]; exact d1) (by simp; omega) (by rw [e2]; exact d2), e2]
      rw [hw1, hw2, writeR_ok ho hl hf]
      refine ⟨rfl, rfl, ?_⟩
      rw [show k + (ws.length - k) = ws.length by omega] at d3
      exact d3
    · simp at h
  · simp at h
theorem writeR_err (ws vs : List Int) (h : (writeR ws vs).2 ≠ 0) : (writeR ws vs).1 = [] := by
  unfold writeR at h ⊢
  split
  · rename_i hc
    split
    · rename_i hf; rw [if_pos hc, if_pos hf] at h; simp at h
    · rfl
  · rfl
theorem writeR_len (ws vs : List Int) : (writeR ws vs).1.length ≤ 4 * ws.length := by
  unfold writeR
  split
  · rename_i hc
    split
    · have h1 := encTo_len ws vs ws.length hc.1; have h2 := sumTo_bd ws ws.length hc.1; simp only; omega
    · simp
  · simp
theorem writeR_bytes (ws vs : List Int) : ∀ b ∈ (writeR ws vs).1, 0 ≤ b ∧ b ≤ 255 := by
  have h1 : ∀ (v : Int) n, ∀ b ∈ encF v n, 0 ≤ b ∧ b ≤ 255 := by
    intro v n
    induction n with
    | zero => intro b hb; simp [encF] at hb
    | succ n ih =>
      intro b hb
      simp only [encF, List.mem_append, List.mem_singleton] at hb
      rcases hb with hb | rfl
      · exact ih b hb
      · generalize v / 256 ^ n = q; omega
  have h2 : ∀ k, ∀ b ∈ encTo ws vs k, 0 ≤ b ∧ b ≤ 255 := by
    intro k
    induction k with
    | zero => intro b hb; simp [encTo] at hb
    | succ k ih =>
      intro b hb
      simp only [encTo, List.mem_append] at hb
      rcases hb with hb | hb
      · exact ih b hb
      · exact h1 _ _ b hb
  unfold writeR
  split
  · split
    · exact h2 _
    · simp
  · simp

end Go.Proofs.YtgdlfiejjnjcpaaGreat

namespace Go.Proofs.YtgdlfiejjnjcpaaGreat
open Go.RowKit

theorem i64_or_byte (v : Int) (b : UInt8) (h0 : 0 ≤ v) (h1 : v < 16777216) : bits .or .i64 (v * 256) (wrap64 (b.toNat : Int)) = v * 256 + (b.toNat : Int) := by
  obtain ⟨n, rfl⟩ := Int.eq_ofNat_of_zero_le h0
  have hb : b.toNat < 256 := b.toNat_lt
  generalize b.toNat = m at *
  have hw : wrap64 (m : Int) = m := by unfold wrap64; omega
  rw [hw]
  have e1 : ((n : Int) * 256) = ((n * 256 : Nat) : Int) := by omega
  have ho : n * 256 ||| m = n * 256 + m := by
    have := Nat.two_pow_add_eq_or_of_lt (i := 8) (b := m) (by omega) n
    rw [show (2 : Nat) ^ 8 = 256 from rfl, Nat.mul_comm 256 n] at this
    exact this.symm
  rw [e1]
  show IntKind.i64.wrap ((BitVec.ofInt 64 ((n * 256 : Nat) : Int) ||| BitVec.ofInt 64 (m : Int)).toNat : Int) = _
  rw [BitVec.toNat_or, ofInt_u64 (n * 256) (by omega), ofInt_u64 m (by omega), ho, IntWalk.i64_in _ (by omega)]
  omega

set_option maxHeartbeats 1000000 in
theorem field_any (s : ByteArray) (w : World) (hs : s.size ≤ 4) :
    Calls Tryz.prog 130 #[.string s] w fun e w' => e = .returned (.int .i64 (decF (bytesOf s) 0 s.size)) ∧ w = w' := by
  go_enter Tryz.func130, Tryz.ntmps130
  go_wp2
  go_loop [3, 4] (fun v i => ∃ k : Nat, k ≤ s.size ∧ i = .int .i64 ((s.size : Int) - 1 - k) ∧ v = .int .i64 (decF (bytesOf s) (s.size - k) k)) (fun _ i => (intOf i + 1).toNat)
  case atStart => exact ⟨0, Nat.zero_le _, by simp, rfl⟩
  case round =>
    obtain ⟨k, hk, rfl, rfl⟩ := hrel
    have hd := decF_bd (bytesOf s) (bytesOf_bd s) k (s.size - k)
    by_cases hlt : k < s.size
    · obtain ⟨i, hi⟩ : ∃ i : Nat, i = s.size - 1 - k := ⟨_, rfl⟩
      have hii : ((s.size : Int) - 1 - k) = (i : Int) := by omega
      have hil : i < s.size := by omega
      have HB := Lib.hid (bytesOf_at s i hil)
      have hp := pow_le3 k (by omega)
      have HD : Hid (decF (bytesOf s) (s.size - (k + 1)) (k + 1) = (bytesOf s).getD i 0 + 256 * decF (bytesOf s) (s.size - k) k) := by
        show _ = _
        rw [show s.size - (k + 1) = i by omega, decF, show i + 1 = s.size - k by omega]
      rw [hii]
      have HI := Lib.hid hi
      clear hii hi
      generalize decF (bytesOf s) (s.size - k) k = v at *
      have hv : 0 ≤ v ∧ v < 16777216 := by omega
      clear hd hp
      have HO := Lib.hid (i64_or_byte v s[i] hv.1 hv.2)
      go_wp2
      refine ⟨⟨k + 1, by omega, ?_, ?_⟩, ?_⟩
      · congr 1; have := HI.out; omega
      · rw [HO.out, HD.out, HB.out]; congr 1; omega
      · simp [intOf]
    · have hkn : k = s.size := by omega
      subst hkn
      rw [Nat.sub_self] at *
      go_wp2
      go_ret
      exact ⟨rfl, rfl⟩

theorem decF_extract (s : ByteArray) (a z : Nat) (h : a + z ≤ s.size) : decF (bytesOf (s.extract a (a + z))) 0 (s.extract a (a + z)).size = decF (bytesOf s) a z := by
  have hsz : (s.extract a (a + z)).size = z := by rw [ByteArray.size_extract]; omega
  rw [hsz]
  refine decF_congr _ _ 0 a z fun i hi => ?_
  rw [Nat.zero_add, bytesOf_at _ i (by omega), bytesOf_at s (a + i) (by omega)]
  congr 2
  rw [ByteArray.getElem_extract]

theorem take_set_snoc (zs : List Int) (k : Nat) (v : Int) (h : k < zs.length) : (zs.set k v).take (k + 1) = zs.take k ++ [v] := by
  rw [List.take_add_one]
  have h1 : (zs.set k v).take k = zs.take k := by rw [List.take_set_of_le (Nat.le_refl k)]
  have h2 : (zs.set k v)[k]? = some v := by simp [h]
  rw [h1, h2]; rfl

theorem ints_of_own {w : World} {base n cap : Nat} {A : Option Addr} {zs : List Int} (h : w.ownsRow base 3 1 (.slice A n cap) n (zs.map (.int .i64))) (hb : ∀ z ∈ zs, -9223372036854775808 ≤ z ∧ z ≤ 9223372036854775807) : IntsAt w w.heap.size A n zs := by
  have hl : zs.length = n := by have := h.1; simpa using this
  refine ⟨hl, hb, fun k hk => ?_⟩
  rcases h.2 with ⟨_, h0⟩ | ⟨g, cap', cur, hv, _, _, _⟩
  · omega
  · have hA : A = some ⟨g, 0, none⟩ := by injection hv
    subst hA
    refine ⟨g, 0, rfl, (h.lt g rfl).2, ?_⟩
    have hc := h.cells (g := g) rfl k (.int .i64 (zs.getD k 0)) (by simp [List.getD, List.getElem?_eq_getElem (show k < zs.length by omega)])
    rw [Go.WideShapes.add_plain] at hc
    exact hc

set_option maxHeartbeats 1000000 in
theorem read_any (A : Option Addr) (n c B : Nat) (ws : List Int) (s : ByteArray) (w : World) (hr : IntsAt w B A n ws) (hB : B ≤ w.heap.size) (hn : n ≤ 20000000000000) (hs : s.size ≤ 1000000000000000) :
    Calls Tryz.prog 97 #[.slice A n c, .string s] w fun e w' => ∃ A' n' c', e = .returned (.tuple #[.slice A' n' c', .int .i64 (readR ws (bytesOf s)).2]) ∧ n' ≤ c' ∧ IntsAt w' w'.heap.size A' n' (readR ws (bytesOf s)).1 ∧ Below w.heap.size w w' := by
  by_cases hok : okTo ws ws.length = true
  · have hsz := sizeS_good ws hok
    have hsb := sumTo_bd ws ws.length hok
    rw [hr.len] at hsb
    have hsn : decide (sizeS ws < 0) = false := by rw [hsz]; simp; rw [hr.len]; omega
    by_cases hsh : (s.size : Int) < sumTo ws ws.length
    · have HW := Lib.hid (readR_short (bs := bytesOf s) hok (by rw [bytesOf_len]; exact hsh))
      have hlt : decide ((s.size : Int) < sizeS ws) = true := by rw [hsz]; simpa using hsh
      clear hok hsz hsb hsh
      go_enter Tryz.func97, Tryz.ntmps97
      go_wp2_with (go_at_call 125; refine (size_any A n c B ws w hr (by omega)).mono ?_; rintro e w' ⟨rfl, rfl⟩)
      go_ret2
      exact ⟨none, 0, 0, by rw [HW.out]; rfl, Nat.le_refl _, by rw [HW.out]; exact ⟨rfl, by simp, by intro k hk; omega⟩, Below.refl _ _⟩
    · obtain ⟨i0, hi, hz0, hz1, hz2⟩ := info_parts Tryz.info3
      have HW := Lib.hid (readR_ok (bs := bytesOf s) hok (by rw [bytesOf_len]; exact hsh))
      have hlt : decide ((s.size : Int) < sizeS ws) = false := by rw [hsz]; simpa using hsh
      have HOK := Lib.hid hok
      have HL := Lib.hid hr.len
      have HSH := Lib.hid hsh
      clear hok hsz hsb hsh
      go_enter Tryz.func97, Tryz.ntmps97
      go_wp2_with (first
        | (go_at_call 125; refine (size_any A n c B ws w hr (by omega)).mono ?_; rintro e w' ⟨rfl, rfl⟩)
        | (at_make; refine wpList_make_full _ rfl _ _ 27 rfl w.heap.size 3 i0 (.int .i64 0) 1 Tryz.underlying27 hi hz0 hz1 _ _ _ _ n rfl rfl rfl rfl (by rw [hz2]; omega) (by unfold maxLen; omega) (Nat.le_refl _) ?_; intro w1 hown1 hgrow1))
      have hb1 : Below w.heap.size w w1 := (Below.refl _ _).grown hgrow1 (Nat.le_refl _) (by intro k hk; cases hk)
      clear hgrow1 hsn hlt
      have hown2 : w1.ownsRow w.heap.size 3 1 (.slice (some ⟨w.heap.size, 0, none⟩) n n) n ((List.replicate n (0 : Int)).map (.int .i64)) := by
        rw [Nat.mul_one] at hown1
        rw [List.map_replicate]
        have e : (madeCells (Value.int .i64 0).cells n).toList = List.replicate n (Value.int .i64 0) := toList_madeCells_one _ _
        rw [e] at hown1
        exact hown1
      clear hown1
      go_loopw [8, 24] (fun at_ i wr => ∃ k : Nat, ∃ zs : List Int, k ≤ n ∧ i = .int .i64 k ∧ at_ = .int .i64 (sumTo ws k) ∧ zs.take k = readTo ws (bytesOf s) k ∧ (∀ z ∈ zs, 0 ≤ z ∧ z < 4294967296) ∧ wr.ownsRow w.heap.size 3 1 (.slice (some ⟨w.heap.size, 0, none⟩) n n) n (zs.map (.int .i64)) ∧ Below w.heap.size w wr) (fun _ i _ => n - (intOf i).toNat)
      case atStart => exact ⟨0, List.replicate n 0, Nat.zero_le _, rfl, rfl, by simp [readTo], by intro z hz; have := List.eq_of_mem_replicate hz; omega, hown2, hb1⟩
      case round =>
        obtain ⟨k, zs, hk, rfl, rfl, htk, hzb, hown, hbel⟩ := hrel
        clear hown2 hb1
        have HT := Lib.hid htk
        have HZ := Lib.hid hzb
        clear htk hzb
        by_cases hkn : k < n
        · have hrk := hr.below hbel hB
          obtain ⟨b, o, rfl, hb, hc⟩ := hrk.at_ hkn
          have hwk := okTo_at ws (k := k) (n := ws.length) (by rw [HL.out]; exact hkn) HOK.out
          have hok1 := okTo_mono ws (k + 1) ws.length (by rw [HL.out]; exact hkn) HOK.out
          have hs1 := sumTo_bd ws k (okTo_mono ws k ws.length (by rw [HL.out]; exact hk) HOK.out)
          have hs2 := sumTo_mono ws (k + 1) ws.length (by rw [HL.out]; exact hkn) HOK.out
          have hs3 : sumTo ws (k + 1) ≤ s.size := by have := HSH.out; omega
          have HS : Hid (sumTo ws (k + 1) = sumTo ws k + ws.getD k 0) := by show _ = _; rfl
          have HR : Hid (readTo ws (bytesOf s) (k + 1) = readTo ws (bytesOf s) k ++ [decF (bytesOf s) (sumTo ws k).toNat (ws.getD k 0).toNat]) := by show _ = _; rfl
          have hz := wOk_d hwk
          have hz1r : 0 ≤ ws.getD k 0 ∧ ws.getD k 0 ≤ 4 := by omega
          rw [HS.out] at hs3
          clear hwk hok1 hz hrk hs2
          generalize ws.getD k 0 = z at *
          generalize sumTo ws k = a at *
          obtain ⟨zn, rfl⟩ := Int.eq_ofNat_of_zero_le hz1r.1
          obtain ⟨an, rfl⟩ := Int.eq_ofNat_of_zero_le hs1.1
          have hcv := hown.cellAt k (by omega)
          have hzk : k < zs.length := by have := hown.1; simp at this; omega
          simp only [List.getElem?_map, List.getElem?_eq_getElem hzk, Option.map_some] at hcv
          have hfz := hown.frozenAt k
          have HF : Hid (decF (bytesOf (s.extract an (an + zn))) 0 (s.extract an (an + zn)).size = decF (bytesOf s) an zn) := decF_extract s an zn (by omega)
          have hfs : (s.extract an (an + zn)).size ≤ 4 := by rw [ByteArray.size_extract]; omega
          have HFS := Lib.hid hfs
          have hdb := decF_bd (bytesOf s) (bytesOf_bd s) zn an
          have hp4 := pow_le4 zn (by omega)
          rw [Int.toNat_natCast, Int.toNat_natCast] at HR
          clear hfs
          go_wp2_with fail
          refine (field_any _ _ HFS.out).mono ?_
          rintro e w' ⟨rfl, rfl⟩
          rw [HF.out]
          generalize decF (bytesOf s) an zn = v at *
          have hv : 0 ≤ v ∧ v < 4294967296 := by omega
          clear hdb hp4
          obtain ⟨hst, hgr⟩ := hown.stored k (.int .i64 v)
          have hb2 : Below w.heap.size w (wr.setCell ⟨w.heap.size, k, none⟩ (.int .i64 v)) := hbel.setCell (Nat.le_refl _) _
          have HST := Lib.hid hst
          clear hst hgr
          go_wp2
          go_roundw
          case rel =>
            refine ⟨k + 1, zs.set k v, by omega, by go_num, by rw [HS.out], ?_, ?_, ?_, hb2⟩
            · rw [HR.out, ← HT.out]; exact take_set_snoc zs k v hzk
            · intro z hz
              rcases List.mem_or_eq_of_mem_set hz with h | h
              · exact HZ.out z h
              · omega
            · rw [List.map_set]; exact HST.out
          case measure => simp [intOf]; omega
        · have hke : k = n := by omega
          subst hke
          have hfin : IntsAt wr wr.heap.size (some ⟨w.heap.size, 0, none⟩) k (readTo ws (bytesOf s) k) := by
            have hzl : zs.length = k := by have := hown.1; simpa using this
            rw [← HT.out, List.take_of_length_le (by omega)]
            exact ints_of_own hown (fun z hz => by have := HZ.out z hz; omega)
          have HFIN := Lib.hid hfin
          clear hfin
          go_wp2
          go_ret2
          exact ⟨_, _, _, by rw [HW.out]; rfl, Nat.le_refl _, by rw [HW.out, HL.out]; exact HFIN.out, hbel⟩
  · have hsn : decide (sizeS ws < 0) = true := by simp only [decide_eq_true_eq]; exact (sizeS_neg ws).2 hok
    have HW := Lib.hid (readR_arg (bs := bytesOf s) hok)
    clear hok
    go_enter Tryz.func97, Tryz.ntmps97
    go_wp2_with (go_at_call 125; refine (size_any A n c B ws w hr (by omega)).mono ?_; rintro e w' ⟨rfl, rfl⟩)
    go_ret2
    exact ⟨none, 0, 0, by rw [HW.out]; rfl, Nat.le_refl _, by rw [HW.out]; exact ⟨rfl, by simp, by intro k hk; omega⟩, Below.refl _ _⟩
end Go.Proofs.YtgdlfiejjnjcpaaGreat

namespace Go.Proofs.YtgdlfiejjnjcpaaGreat
open Go.RowKit

theorem one_cell_int (k : IntKind) (v : Int) : ∀ u ∈ [Value.int k v], u.oneCell' = true := by intro u hu; simp at hu; subst hu; rfl
theorem i64_add_byte (v : Int) (b : UInt8) (h0 : 0 ≤ v) (h1 : v < 16777216) : wrap64 (256 * v + wrap64 (b.toNat : Int)) = v * 256 + (b.toNat : Int) := by
  have hb : b.toNat < 256 := b.toNat_lt
  generalize b.toNat = m at *
  unfold wrap64; omega
theorem readTo_bd (ws bs : List Int) (hb : ∀ i, 0 ≤ bs.getD i 0 ∧ bs.getD i 0 ≤ 255) : ∀ k, okTo ws k = true → ∀ z ∈ readTo ws bs k, -9223372036854775808 ≤ z ∧ z ≤ 9223372036854775807 := by
  intro k
  induction k with
  | zero => intro _ z hz; simp [readTo] at hz
  | succ k ih =>
    intro h z hz
    simp only [okTo, Bool.and_eq_true] at h
    simp only [readTo, List.mem_append, List.mem_singleton] at hz
    rcases hz with hz | rfl
    · exact ih h.1 z hz
    · have h2 := wOk_d h.2
      have h3 := decF_bd bs hb (ws.getD k 0).toNat (sumTo ws k).toNat
      have h4 := pow_le4 (ws.getD k 0).toNat (by omega)
      omega

end Go.Proofs.YtgdlfiejjnjcpaaGreat

namespace Go.Proofs.YtgdlfiejjnjcpaaGreat
open Go.RowKit

/-- s, and behind it so many bytes 0 that there are n. -/
def padS (s : ByteArray) (n : Nat) : ByteArray := ⟨(s.data.toList ++ List.replicate (n - s.size) 0).toArray⟩
def padR (s : ByteArray) (n : Int) : ByteArray × Int :=
  if 0 ≤ n ∧ n ≤ 1000 then (if (s.size : Int) ≤ n then (padS s n.toNat, 0) else (⟨#[]⟩, 3)) else (⟨#[]⟩, 1)
theorem padR_arg {s : ByteArray} {n : Int} (h : ¬ (0 ≤ n ∧ n ≤ 1000)) : padR s n = (⟨#[]⟩, 1) := by unfold padR; rw [if_neg h]
theorem padR_range {s : ByteArray} {n : Int} (h : 0 ≤ n ∧ n ≤ 1000) (h2 : ¬ (s.size : Int) ≤ n) : padR s n = (⟨#[]⟩, 3) := by unfold padR; rw [if_pos h, if_neg h2]
theorem padR_ok {s : ByteArray} {n : Int} (h : 0 ≤ n ∧ n ≤ 1000) (h2 : (s.size : Int) ≤ n) : padR s n = (padS s n.toNat, 0) := by unfold padR; rw [if_pos h, if_pos h2]

theorem Tryz.cells5 : Tryz.prog.cellsOf 5 = 1 := by kernel_rfl
theorem info5size : (Tryz.prog.info? 5).map (·.size) = some 1 := by kernel_rfl

/-- 'make([]byte, n)', for the walk to take. -/
theorem make_bytes (n : Nat) (hn : n ≤ 140737488355328) : ∃ M : Array Value, M.toList = List.replicate n (.int .u8 0) ∧ M.size = n ∧
    ∀ W : World, (Instr.makeSlice 112 (.int .i64 (n : Int)) (.int .i64 (n : Int))).run Tryz.prog W = .ok (.slice (some ⟨W.heap.size, 0, none⟩) n n) (W.alloc (.cells M 5)) := by
  obtain ⟨i0, hi, hz0, hz1, hz2⟩ := info_parts Tryz.info5
  refine ⟨madeCells (Value.int .u8 0).cells (n * i0.size), ?_, ?_, fun W => ?_⟩
  · rw [hz1, Nat.mul_one]; exact toList_madeCells_one _ _
  · rw [size_madeCells, hz1, Nat.mul_one]
  · have h := run_make (P := Tryz.prog) W 112 5 i0 (.int .u8 0) Tryz.underlying112 hi hz0 .i64 .i64 (n : Int) (n : Int) (by omega) (by omega) (by rw [hz2]; omega) (by omega)
    simpa using h

theorem conv_cells {W : World} {g cap : Nat} (l : List UInt8) (Y : Array Value) (fr : Nat × Nat) (hg : W.heap[g]? = some (.cells Y 5 fr)) (hY : Y.toList = Lib.byteCells l) :
    (convert 112 9 (.slice (some ⟨g, 0, none⟩) l.length cap)).run Tryz.prog W = .ok (.string ⟨l.toArray⟩) W := by
  refine run_convert_bytes_back W 112 9 5 ⟨g, 0, none⟩ cap l Tryz.underlying112 Tryz.underlying5 Tryz.underlying9 (fun j hj => ?_)
  rw [Go.WideShapes.add_plain, cell_of_row W g (0 + j) Y 5 fr hg, Nat.zero_add, ← Array.getElem?_toList, hY]
  simp [Lib.byteCells, hj]

set_option maxRecDepth 100000 in
set_option maxHeartbeats 1000000 in
theorem zeros_any (n : Nat) (w : World) (hn : n ≤ 1000) :
    Calls Tryz.prog 92 #[.int .i64 n] w fun e w' => e = .returned (.string ⟨(List.replicate n (0 : UInt8)).toArray⟩) ∧ Below w.heap.size w w' := by
  obtain ⟨M, hM, hMs, hmk⟩ := make_bytes n (by omega)
  have hcv := conv_cells (W := w.alloc (.cells M 5)) (g := w.heap.size) (cap := n) (List.replicate n (0 : UInt8)) M (0, 0) (heap_alloc_new w _) (by rw [hM]; simp [Lib.byteCells])
  rw [List.length_replicate] at hcv
  have HM := Lib.hid hM
  clear hM
  generalize hR : (⟨(List.replicate n (0 : UInt8)).toArray⟩ : ByteArray) = R at *
  clear hR
  go_enter Tryz.func92, Tryz.ntmps92
  go_wp2
  go_ret
  exact ⟨rfl, (Below.refl _ _).alloc (Nat.le_refl _) _⟩

set_option maxRecDepth 100000 in
set_option maxHeartbeats 1000000 in
theorem pad_any (s : ByteArray) (n : Int) (w : World) (_hs : s.size ≤ 140737488355328) (hn : -9223372036854775808 ≤ n ∧ n ≤ 9223372036854775807) :
    Calls Tryz.prog 52 #[.string s, .int .i64 n] w fun e w' => e = .returned (.tuple #[.string (padR s n).1, .int .i64 (padR s n).2]) ∧ Below w.heap.size w w' := by
  by_cases h : 0 ≤ n ∧ n ≤ 1000
  · by_cases h2 : (s.size : Int) ≤ n
    · have HP := Lib.hid (padR_ok h h2)
      obtain ⟨m, rfl⟩ := Int.eq_ofNat_of_zero_le h.1
      obtain ⟨M, hM, hMs, hmk⟩ := make_bytes m (by omega)
      have hcp := Lib.run_copy_row_string (P := Tryz.prog) (w.alloc (.cells M 5)) 112 9 3 5 w.heap.size 0 m m s M 5 Tryz.underlying112 info5size (heap_alloc_new w _) (by omega) (by omega)
      obtain ⟨Y, hY⟩ : ∃ Y, Y = (M.toList.take 0 ++ Lib.byteCells s.data.toList ++ M.toList.drop (0 + s.size)).toArray := ⟨_, rfl⟩
      rw [← hY] at hcp
      have hl : (s.data.toList ++ List.replicate (m - s.size) (0 : UInt8)).length = m := by
        rw [List.length_append, List.length_replicate, ← Lib.size_eq]; omega
      have hYl : Y.toList = Lib.byteCells (s.data.toList ++ List.replicate (m - s.size) (0 : UInt8)) := by
        rw [hY, List.toList_toArray, List.take_zero, List.nil_append, hM, Nat.zero_add, List.drop_replicate]
        simp [Lib.byteCells]
      have hgY : ((w.alloc (.cells M 5)).setRow w.heap.size Y).heap[w.heap.size]? = some (.cells Y 5 (0, 0)) := setRow_heap _ _ M _ 5 (0, 0) (heap_alloc_new w _)
      have hcv := conv_cells (cap := m) _ Y (0, 0) hgY hYl
      rw [hl] at hcv
      have hb2 : Below w.heap.size w ((w.alloc (.cells M 5)).setRow w.heap.size Y) :=
        ((Below.refl _ w).alloc (Nat.le_refl _) (.cells M 5)).trans ⟨rfl, rfl, rfl, by simp, fun k hk => setRow_other _ _ _ _ (by omega)⟩
      have e1 : (⟨(s.data.toList ++ List.replicate (m - s.size) (0 : UInt8)).toArray⟩ : ByteArray) = padS s m := rfl
      rw [e1] at hcv
      rw [Int.toNat_natCast] at HP
      generalize padS s m = R at *
      clear hM hY hYl hgY hl e1
      go_enter Tryz.func52, Tryz.ntmps52
      go_wp2
      go_ret2
      exact ⟨by rw [HP.out]; rfl, hb2⟩
    · have HP := Lib.hid (padR_range h h2)
      have d1 : decide (n < 0) = false := by simp; omega
      have d2 : decide (1000 < n) = false := by simp; omega
      have d3 : decide (n < (s.size : Int)) = true := by simp; omega
      go_enter Tryz.func52, Tryz.ntmps52
      go_wp2
      go_ret2
      exact ⟨by rw [HP.out]; rfl, Below.refl _ _⟩
  · have HP := Lib.hid (padR_arg (s := s) h)
    have d : n < 0 ∨ 1000 < n := by omega
    rcases d with d | d
    · have d1 : decide (n < 0) = true := by simpa using d
      clear h
      go_enter Tryz.func52, Tryz.ntmps52
      go_wp2
      go_ret2
      exact ⟨by rw [HP.out]; rfl, Below.refl _ _⟩
    · have d1 : decide (n < 0) = false := by simp; omega
      have d2 : decide (1000 < n) = true := by simpa using d
      clear h
      go_enter Tryz.func52, Tryz.ntmps52
      go_wp2
      go_ret2
      exact ⟨by rw [HP.out]; rfl, Below.refl _ _⟩

theorem pad_add (s : ByteArray) (m : Nat) : s ++ (⟨(List.replicate (m - s.size) (0 : UInt8)).toArray⟩ : ByteArray) = padS s m := by
  apply ByteArray.ext
  apply Array.ext'
  simp [padS]
end Go.Proofs.YtgdlfiejjnjcpaaGreat
