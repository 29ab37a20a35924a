/-
  WALKS: allZero, Untext and Text return what allZ, untextR and textR say, and write nothing that was there. Conditions: strings of at most 140737488355328 bytes.
-/
import Derived.Test.YtflijnhgonigjaaPad
import Derived.Lib.IndexBytes
namespace Go.Proofs.Ytflijnhgonigjaa
open Go.RowKit

/-- the place of the first byte 0, or how many bytes there are. -/
def zAt : List UInt8 → Nat
  | [] => 0
  | b :: l => if b = 0 then 0 else zAt l + 1
theorem zAt_le (l : List UInt8) : zAt l ≤ l.length := by
  induction l with
  | nil => simp [zAt]
  | cons b l ih => simp only [zAt]; split <;> simp <;> omega
theorem zAt_eq : ∀ (l : List UInt8) (o : Nat), (∀ k, k < o → l[k]? ≠ some 0) → (l[o]? = some 0 ∨ o = l.length) → zAt l = o := by
  intro l
  induction l with
  | nil => intro o h h2; simp at h2; subst h2; rfl
  | cons b l ih =>
    intro o h h2
    simp only [zAt]
    cases o with
    | zero =>
      simp at h2
      rw [if_pos h2]
    | succ o =>
      have h0 := h 0 (by omega)
      simp at h0
      rw [if_neg h0, ih o (fun k hk => by have := h (k + 1) (by omega); simpa using this) (by simpa using h2)]
theorem zAt_none {l : List UInt8} (h : Lib.indexByte l 0 = -1) : zAt l = l.length := zAt_eq l _ (fun k _ => Lib.indexByte_none h k) (Or.inr rfl)
theorem zAt_some {l : List UInt8} {o : Nat} (h : Lib.indexByte l 0 = o) : zAt l = o := zAt_eq l _ (Lib.indexByte_some h).2 (Or.inl (Lib.indexByte_some h).1)

def allZ (s : ByteArray) : Bool := s.data.toList.all (· == 0)
def hasZ (s : ByteArray) : Bool := decide ((0 : UInt8) ∈ s.data.toList)
def untextR (s : ByteArray) : ByteArray × Int :=
  if ((s.data.toList.drop (zAt s.data.toList)).all (· == 0)) = true then (s.extract 0 (zAt s.data.toList), 0) else (⟨#[]⟩, 15)
def textR (s : ByteArray) (n : Int) : ByteArray × Int :=
  if (padR s n).2 = 0 then (if hasZ s = true then (⟨#[]⟩, 3) else padR s n) else (⟨#[]⟩, (padR s n).2)

theorem byte_at (s : ByteArray) (k : Nat) (h : k < s.size) : s.data.toList[k]? = some (s[k]'h) := by
  have h' : k < s.data.toList.length := by rw [Array.length_toList]; exact h
  rw [List.getElem?_eq_getElem h']
  rfl
theorem byte_z (s : ByteArray) (k : Nat) (h : k < s.size) (hz : ((s[k]'h).toNat : Int) = 0) : s.data.toList[k]? = some 0 := by
  rw [byte_at s k h]; congr 1; apply UInt8.toNat_inj.1; simpa using hz
theorem byte_nz (s : ByteArray) (k : Nat) (h : k < s.size) (hz : ¬ ((s[k]'h).toNat : Int) = 0) : s.data.toList[k]? ≠ some 0 := by
  rw [byte_at s k h]; intro e; injection e with e; apply hz; rw [e]; rfl
theorem all_no (l : List UInt8) (k : Nat) (b : UInt8) (h : l[k]? = some b) (hb : b ≠ 0) : l.all (· == 0) = false := by
  rw [Bool.eq_false_iff]
  intro ha
  rw [List.all_eq_true] at ha
  have := ha b (List.mem_of_getElem? h)
  simp at this; exact hb this
theorem all_yes (l : List UInt8) (h : ∀ k, k < l.length → l[k]? = some 0) : l.all (· == 0) = true := by
  rw [List.all_eq_true]
  intro b hb
  obtain ⟨k, hk⟩ := List.getElem?_of_mem hb
  have hl : k < l.length := by
    rcases Nat.lt_or_ge k l.length with h1 | h1
    · exact h1
    · rw [List.getElem?_eq_none h1] at hk; cases hk
  rw [h k hl] at hk; injection hk with hk; simp [← hk]

set_option maxRecDepth 100000 in
set_option maxHeartbeats 1000000 in
theorem allZero_any (s : ByteArray) (w : World) (hs : s.size ≤ 140737488355328) :
    Calls Try.prog 94 #[.string s] w fun e w' => e = .returned (.bool (allZ s)) ∧ w = w' := by
  have HL : Hid (s.data.toList.length = s.size) := by show _ = _; rw [Array.length_toList]; rfl
  go_enter Try.func94, Try.ntmps94
  go_wp2
  go_loop [6] (fun i => ∃ k : Nat, k ≤ s.size ∧ i = .int .i64 k ∧ ∀ j, j < k → s.data.toList[j]? = some 0) (fun i => s.size - (intOf i).toNat)
  case atStart => exact ⟨0, Nat.zero_le _, rfl, by intro j hj; omega⟩
  case round =>
    obtain ⟨k, hk, rfl, hz⟩ := hrel
    have HZ := Lib.hid hz
    clear hz
    by_cases hlt : k < s.size
    · have hr : (s[k].toNat : Int) < 256 := by have := s[k].toNat_lt; omega
      by_cases hb : (s[k].toNat : Int) = 0
      · have HB := Lib.hid (byte_z s k hlt hb)
        have hb' : ((s[k].toNat : Int) != 0) = false := by simp [hb]
        clear hb
        go_wp2
        go_round
        case rel => exact ⟨k + 1, by omega, by go_num, fun j hj => by
          by_cases e : j = k
          · subst e; exact HB.out
          · exact HZ.out j (by omega)⟩
        case measure => simp [intOf]; omega
      · have HB : Hid (allZ s = false) := all_no s.data.toList k s[k] (byte_at s k hlt) (fun e => hb (by rw [e]; rfl))
        have hb' : ((s[k].toNat : Int) != 0) = true := bne_iff_ne.2 hb
        clear hb
        go_wp2
        go_ret
        exact ⟨ret_bool HB.out.symm, rfl⟩
    · have HA : Hid (allZ s = true) := all_yes s.data.toList (fun j hj => HZ.out j (by rw [HL.out] at hj; omega))
      go_wp2
      go_ret
      exact ⟨ret_bool HA.out.symm, rfl⟩

set_option maxRecDepth 100000 in
set_option maxHeartbeats 1000000 in
theorem untext_any (s : ByteArray) (w : World) (hs : s.size ≤ 140737488355328) :
    Calls Try.prog 82 #[.string s] w fun e w' => e = .returned (.tuple #[.string (untextR s).1, .int .i64 (untextR s).2]) ∧ Below w.heap.size w w' := by
  have HL : Hid (s.data.toList.length = s.size) := by show _ = _; rw [Array.length_toList]; rfl
  have hge := Lib.indexByte_ge s.data.toList 0
  obtain ⟨k, hk, hzk⟩ : ∃ k : Nat, zAt s.data.toList = k ∧ ((Lib.indexByte s.data.toList 0 = -1 ∧ k = s.size) ∨ Lib.indexByte s.data.toList 0 = k) := by
    by_cases h : Lib.indexByte s.data.toList 0 = -1
    · exact ⟨s.size, by rw [zAt_none h, HL.out], Or.inl ⟨h, rfl⟩⟩
    · obtain ⟨o, ho⟩ := Int.eq_ofNat_of_zero_le (show 0 ≤ Lib.indexByte s.data.toList 0 by omega)
      exact ⟨o, zAt_some ho, Or.inr ho⟩
  have hks : k ≤ s.size := by rw [← hk, ← HL.out]; exact zAt_le _
  have hd : (s.extract k s.size).data.toList = s.data.toList.drop k := Lib.extract_to_end s k
  have hU : untextR s = if allZ (s.extract k s.size) = true then (s.extract 0 k, 0) else (⟨#[]⟩, 15) := by
    unfold untextR allZ; rw [hk, hd]
  have HU := Lib.hid hU
  have he1 : (s.extract k s.size).size ≤ 140737488355328 := by rw [ByteArray.size_extract]; omega
  have he2 : (s.extract 0 k).size ≤ 140737488355328 := by rw [ByteArray.size_extract]; omega
  have HE1 := Lib.hid he1
  have HE2 := Lib.hid he2
  clear hU hk hd he1 he2 hge
  rcases hzk with ⟨hx, rfl⟩ | hx
  · have HI := Lib.hid hx
    have hem : s.extract s.size s.size = ByteArray.empty := by simp
    have HZ0 : Hid (allZ ByteArray.empty = true) := by show _ = _; decide
    have HW : Hid (untextR s = (s, 0)) := by
      show _ = _
      rw [HU.out, hem, HZ0.out, if_pos rfl]
      simp
    have HE0 : Hid (ByteArray.empty.size ≤ 140737488355328) := by show _ ≤ _; decide
    clear hx hem
    go_enter Try.func82, Try.ntmps82
    go_wp2_with (first
      | (go_at_call 92; refine (indexByte_any _ _).mono ?_; rintro e w' ⟨rfl, rfl⟩; rw [HI.out])
      | (go_at_call 94; refine (allZero_any _ _ HE0.out).mono ?_; rintro e w' ⟨rfl, rfl⟩; rw [HZ0.out])
      | (go_at_call 42; refine (clone_any _ _ hs).mono ?_; rintro e w1 ⟨rfl, hb1⟩))
    go_ret2
    exact ⟨by rw [HW.out]; rfl, hb1⟩
  · have HI := Lib.hid hx
    clear hx
    cases hz : allZ (s.extract k s.size) with
    | false =>
      have Hz := Lib.hid hz
      have HW : Hid (untextR s = (⟨#[]⟩, 15)) := by show _ = _; rw [HU.out, hz]; rfl
      clear hz
      go_enter Try.func82, Try.ntmps82
      go_wp2_with (first
        | (go_at_call 92; refine (indexByte_any _ _).mono ?_; rintro e w' ⟨rfl, rfl⟩; rw [HI.out])
        | (go_at_call 94; refine (allZero_any _ _ HE1.out).mono ?_; rintro e w' ⟨rfl, rfl⟩; rw [Hz.out])
        | (go_at_call 42; refine (clone_any _ _ HE2.out).mono ?_; rintro e w1 ⟨rfl, hb1⟩))
      go_ret2
      exact ⟨by rw [HW.out]; rfl, Below.refl _ _⟩
    | true =>
      have Hz := Lib.hid hz
      have HW : Hid (untextR s = (s.extract 0 k, 0)) := by show _ = _; rw [HU.out, hz]; rfl
      clear hz
      go_enter Try.func82, Try.ntmps82
      go_wp2_with (first
        | (go_at_call 92; refine (indexByte_any _ _).mono ?_; rintro e w' ⟨rfl, rfl⟩; rw [HI.out])
        | (go_at_call 94; refine (allZero_any _ _ HE1.out).mono ?_; rintro e w' ⟨rfl, rfl⟩; rw [Hz.out])
        | (go_at_call 42; refine (clone_any _ _ HE2.out).mono ?_; rintro e w1 ⟨rfl, hb1⟩))
      go_ret2
      exact ⟨by rw [HW.out]; rfl, hb1⟩

theorem hasZ_of {s : ByteArray} {k : Nat} (hz : s.data.toList[k]? = some 0) : hasZ s = true := by
  simp only [hasZ, decide_eq_true_eq]; exact List.mem_of_getElem? hz
theorem hasZ_no {s : ByteArray} (h : ∀ k, k < s.size → s.data.toList[k]? ≠ some 0) : hasZ s = false := by
  simp only [hasZ, decide_eq_false_iff_not]
  intro hm
  obtain ⟨k, hk⟩ := List.getElem?_of_mem hm
  have hl : k < s.size := by
    rcases Nat.lt_or_ge k s.data.toList.length with h1 | h1
    · rw [Array.length_toList] at h1; exact h1
    · rw [List.getElem?_eq_none h1] at hk; cases hk
  exact h k hl hk
theorem hasZ_index (s : ByteArray) : decide (0 ≤ Lib.indexByte s.data.toList 0) = hasZ s := by
  have hge := Lib.indexByte_ge s.data.toList 0
  by_cases h : Lib.indexByte s.data.toList 0 = -1
  · rw [hasZ_no (fun k _ => Lib.indexByte_none h k), h]; rfl
  · obtain ⟨o, ho⟩ := Int.eq_ofNat_of_zero_le (show 0 ≤ Lib.indexByte s.data.toList 0 by omega)
    have h2 := (Lib.indexByte_some ho).1
    have : hasZ s = true := by simp only [hasZ, decide_eq_true_eq]; exact List.mem_of_getElem? h2
    rw [this, ho]; simp

set_option maxRecDepth 100000 in
set_option maxHeartbeats 1000000 in
theorem text_any (s : ByteArray) (n : Int) (w : World) (hs : s.size ≤ 140737488355328) (hn : -9223372036854775808 ≤ n ∧ n ≤ 9223372036854775807) :
    Calls Try.prog 75 #[.string s, .int .i64 n] w fun e w' => e = .returned (.tuple #[.string (textR s n).1, .int .i64 (textR s n).2]) ∧ Below w.heap.size w w' := by
  have hT : textR s n = if (padR s n).2 = 0 then (if hasZ s = true then (⟨#[]⟩, 3) else padR s n) else (⟨#[]⟩, (padR s n).2) := rfl
  have hix := hasZ_index s
  by_cases hp : (padR s n).2 = 0
  · rw [if_pos hp] at hT
    have HP := Lib.hid hp
    clear hp
    cases hz : hasZ s with
    | true =>
      rw [hz, if_pos rfl] at hT
      rw [hz] at hix
      have HT := Lib.hid hT
      have HX := Lib.hid hix
      clear hT hz hix
      go_enter Try.func75, Try.ntmps75
      go_wp2_with fail
      refine (pad_any s n w hs hn).mono ?_
      rintro e w1 ⟨rfl, hb1⟩
      rw [HP.out]
      go_wp2_with fail
      refine (indexByte_any s w1).mono ?_
      rintro e w2 ⟨rfl, rfl⟩
      have hx := HX.out
      generalize Lib.indexByte s.data.toList 0 = ix at *
      go_wp2
      go_ret2
      exact ⟨by rw [HT.out]; rfl, hb1⟩
    | false =>
      rw [hz, if_neg (by simp)] at hT
      rw [hz] at hix
      have HT := Lib.hid hT
      have HX := Lib.hid hix
      clear hT hz hix
      go_enter Try.func75, Try.ntmps75
      go_wp2_with fail
      refine (pad_any s n w hs hn).mono ?_
      rintro e w1 ⟨rfl, hb1⟩
      rw [HP.out]
      go_wp2_with fail
      refine (indexByte_any s w1).mono ?_
      rintro e w2 ⟨rfl, rfl⟩
      have hx := HX.out
      generalize Lib.indexByte s.data.toList 0 = ix at *
      go_wp2
      go_ret2
      exact ⟨by rw [HT.out, HP.out]; rfl, hb1⟩
  · rw [if_neg hp] at hT
    have HT := Lib.hid hT
    have hp' : ((padR s n).2 != 0) = true := bne_iff_ne.2 hp
    have HP := Lib.hid hp'
    clear hT hp hp' hix
    go_enter Try.func75, Try.ntmps75
    go_wp2_with fail
    refine (pad_any s n w hs hn).mono ?_
    rintro e w1 ⟨rfl, hb1⟩
    have hp := HP.out
    generalize (padR s n).2 = er at *
    go_wp2
    go_ret2
    exact ⟨by rw [HT.out]; rfl, hb1⟩
end Go.Proofs.Ytflijnhgonigjaa
