/-
  PLAIN MATHEMATICS of a log: which changes may be, what blocks are behind them, what a head says. No condition.
-/
import Derived.Test.YtpljifeebbeakaaLWords
import Derived.Test.YtpljifeebbeakaaPlainC
namespace Go.Proofs.Ytpljifeebbeakaa
open Go.RowKit
open Sl (St)

/-! ### which changes may be -/
def ownB (i : Int) : Bool := decide (1 ≤ i) && decide (i ≤ 41)
theorem ownB_t {i : Int} : ownB i = true ↔ 1 ≤ i ∧ i ≤ 41 := by simp [ownB]
theorem ownB_f {i : Int} : ownB i = false ↔ ¬ (1 ≤ i ∧ i ≤ 41) := by rw [← ownB_t]; simp
def okAt (N : Nat) (l : List Int) (k : Nat) : Bool := decide (0 ≤ l.getD k 0) && decide (l.getD k 0 < N) && !ownB (l.getD k 0) && !((l.take k).contains (l.getD k 0))
def chB (N : Nat) (l : List Int) : Bool := (List.range l.length).all (okAt N l)
theorem chB_t {N : Nat} {l : List Int} : chB N l = true ↔ ∀ k, k < l.length → okAt N l k = true := by simp [chB]
theorem chB_no {N : Nat} {l : List Int} {k : Nat} (hk : k < l.length) (h : okAt N l k = false) : chB N l = false := by
  cases hc : chB N l with
  | false => rfl
  | true => rw [chB_t.1 hc k hk] at h; cases h
theorem okAt_t {N : Nat} {l : List Int} {k : Nat} : okAt N l k = true ↔ 0 ≤ l.getD k 0 ∧ l.getD k 0 < N ∧ ¬ (1 ≤ l.getD k 0 ∧ l.getD k 0 ≤ 41) ∧ (l.take k).contains (l.getD k 0) = false := by
  simp only [okAt, Bool.and_eq_true, Bool.not_eq_true', decide_eq_true_eq, ownB_f]
  constructor
  · rintro ⟨⟨⟨a, b⟩, c⟩, d⟩; exact ⟨a, b, c, d⟩
  · rintro ⟨a, b, c, d⟩; exact ⟨⟨⟨a, b⟩, c⟩, d⟩
def bks (l : List Ch) : List Int := l.map Ch.bk
theorem bks_len (l : List Ch) : (bks l).length = l.length := by simp [bks]
theorem bks_get (l : List Ch) (k : Nat) : (bks l).getD k 0 = (l.getD k Ch.z).bk := by
  simp only [bks, List.getD, List.getElem?_map]
  cases l[k]? <;> rfl
def okC (N : Nat) (l : List Ch) (k : Nat) : Bool := okAt N (bks l) k && decide ((l.getD k Ch.z).dt.size = 128)
def okL (N : Nat) (l : List Ch) : Bool := (List.range l.length).all (okC N l)
theorem okL_t {N : Nat} {l : List Ch} : okL N l = true ↔ ∀ k, k < l.length → okC N l k = true := by simp [okL]
theorem okL_no {N : Nat} {l : List Ch} {k : Nat} (hk : k < l.length) (h : okC N l k = false) : okL N l = false := by
  cases hc : okL N l with
  | false => rfl
  | true => rw [okL_t.1 hc k hk] at h; cases h
theorem okC_t {N : Nat} {l : List Ch} {k : Nat} : okC N l k = true ↔ okAt N (bks l) k = true ∧ (l.getD k Ch.z).dt.size = 128 := by simp [okC]
/-- which changes may be: 0, or the error. -/
def rightC (l : List Ch) (N : Nat) : Int := if 40 < l.length then 13 else if okL N l = true then 0 else 1
theorem rightC_big {l : List Ch} {N : Nat} (h : 40 < l.length) : rightC l N = 13 := by unfold rightC; rw [if_pos h]
theorem rightC_ok {l : List Ch} {N : Nat} (h : ¬ 40 < l.length) (h2 : okL N l = true) : rightC l N = 0 := by unfold rightC; rw [if_neg h, if_pos h2]
theorem rightC_no {l : List Ch} {N : Nat} (h : ¬ 40 < l.length) (h2 : okL N l = false) : rightC l N = 1 := by unfold rightC; rw [if_neg h, if_neg (by rw [h2]; decide)]
theorem rightC_0 {l : List Ch} {N : Nat} (h : rightC l N = 0) : ¬ 40 < l.length ∧ okL N l = true := by
  unfold rightC at h
  by_cases h1 : 40 < l.length
  · rw [if_pos h1] at h; cases h
  · rw [if_neg h1] at h
    by_cases h2 : okL N l = true
    · exact ⟨h1, h2⟩
    · rw [if_neg h2] at h; cases h
theorem okL_ch {N : Nat} {l : List Ch} (h : okL N l = true) : chB N (bks l) = true :=
  chB_t.2 fun k hk => (okC_t.1 (okL_t.1 h k (by rwa [bks_len] at hk))).1
theorem okL_of {N : Nat} {l : List Ch} (h : chB N (bks l) = true) (hs : ∀ k, k < l.length → (l.getD k Ch.z).dt.size = 128) : okL N l = true :=
  okL_t.2 fun k hk => okC_t.2 ⟨chB_t.1 h k (by rwa [bks_len]), hs k hk⟩
/-- the blocks lie in the slab. -/
def InL (N : Nat) (l : List Ch) : Prop := ∀ c ∈ l, 0 ≤ c.bk ∧ c.bk < N ∧ c.dt.size = 128
theorem okL_in {N : Nat} {l : List Ch} (h : okL N l = true) : InL N l := by
  intro c hc
  obtain ⟨k, hk, rfl⟩ := List.mem_iff_getElem.1 hc
  obtain ⟨h1, h2⟩ := okC_t.1 (okL_t.1 h k hk)
  have e : l.getD k Ch.z = l[k] := by simp [List.getD, hk]
  obtain ⟨a, b, _⟩ := okAt_t.1 h1
  rw [bks_get, e] at a b
  rw [e] at h2
  exact ⟨a, b, h2⟩
theorem okL_own {N : Nat} {l : List Ch} (h : okL N l = true) : ∀ c ∈ l, ¬ (1 ≤ c.bk ∧ c.bk ≤ 41) := by
  intro c hc
  obtain ⟨k, hk, rfl⟩ := List.mem_iff_getElem.1 hc
  obtain ⟨h1, h2⟩ := okC_t.1 (okL_t.1 h k hk)
  have e : l.getD k Ch.z = l[k] := by simp [List.getD, hk]
  obtain ⟨_, _, a, _⟩ := okAt_t.1 h1
  rwa [bks_get, e] at a

/-! ### what blocks are behind changes -/
def setL (D : List ByteArray) (l : List Ch) : List ByteArray := l.foldl (fun D c => D.set c.bk.toNat c.dt) D
theorem setL_len (l : List Ch) : ∀ D : List ByteArray, (setL D l).length = D.length := by
  induction l with
  | nil => intro D; rfl
  | cons c r ih => intro D; show (setL (D.set c.bk.toNat c.dt) r).length = _; rw [ih]; simp
theorem setL_snoc (D : List ByteArray) (l : List Ch) (c : Ch) : setL D (l ++ [c]) = (setL D l).set c.bk.toNat c.dt := by simp [setL]
def FS (D : List ByteArray) (c : Nat) : St := ⟨D, fun _ => none, c, false, 0⟩
def wall (σ : St) (l : List Ch) : St := l.foldl (fun σ c => σ.tick.put c.bk c.dt) σ
def fl (σ : St) : St := { σ.tick with dur := σ.img }.firm
theorem wall_snoc (σ : St) (l : List Ch) (c : Ch) : wall σ (l ++ [c]) = (wall σ l).tick.put c.bk c.dt := by simp [wall]
theorem wall_same (l : List Ch) : ∀ σ : St, (wall σ l).dur = σ.dur ∧ (wall σ l).stops = σ.stops ∧ (wall σ l).stopAt = σ.stopAt ∧ (wall σ l).calls = σ.calls + l.length := by
  induction l with
  | nil => intro σ; exact ⟨rfl, rfl, rfl, rfl⟩
  | cons c r ih =>
    intro σ
    obtain ⟨a, b, d, e⟩ := ih (σ.tick.put c.bk c.dt)
    refine ⟨a, b, d, e.trans ?_⟩
    show σ.calls + 1 + r.length = _
    simp only [List.length_cons]; omega
theorem put_img {σ : St} {i : Int} {s : ByteArray} (h0 : 0 ≤ i) (h : i < (σ.dur.length : Int)) : (σ.tick.put i s).img = σ.img.set i.toNat s := by
  obtain ⟨n, rfl⟩ := Int.eq_ofNat_of_zero_le h0
  apply List.ext_getElem (by simp [Sl.St.img, Sl.St.put, Sl.St.tick])
  intro j h1 h2
  rw [List.getElem_set]
  simp only [Sl.St.img, List.getElem_map, List.getElem_range, Sl.St.at, Sl.St.put, Sl.St.tick]
  by_cases e : n = j
  · subst e; simp
  · have : ¬ ((j : Int) = (n : Int)) := by omega
    rw [if_neg this, if_neg (by simpa using e)]
theorem wall_img (l : List Ch) : ∀ σ : St, InL σ.dur.length l → (wall σ l).img = setL σ.img l := by
  induction l with
  | nil => intro σ _; rfl
  | cons c r ih =>
    intro σ h
    obtain ⟨h0, h1, _⟩ := h c (by simp)
    have := ih (σ.tick.put c.bk c.dt) (fun d hd => h d (by simp [hd]))
    rw [put_img h0 h1] at this
    exact this
theorem img_FS (D : List ByteArray) (c : Nat) : (FS D c).img = D := by
  apply List.ext_getElem (by simp [Sl.St.img, FS])
  intro j h1 h2
  simp [Sl.St.img, FS, Sl.St.at, List.getD, h2]
theorem fl_wall {D : List ByteArray} {c : Nat} {l : List Ch} (h : InL D.length l) : fl (wall (FS D c) l) = FS (setL D l) (c + l.length + 1) := by
  have h1 := wall_img l (FS D c) h
  rw [img_FS] at h1
  obtain ⟨a, b, d, e⟩ := wall_same l (FS D c)
  unfold fl
  rw [h1]
  show (⟨setL D l, _, (wall (FS D c) l).calls + 1, (wall (FS D c) l).stops, (wall (FS D c) l).stopAt⟩ : St) = _
  rw [b, d, e]; rfl
theorem setL_one (D : List ByteArray) (s : ByteArray) : setL D [⟨1, s⟩] = D.set 1 s := rfl
theorem halted_FS {σ : St} (h : σ.stops = false) : σ.halted = false := by unfold Sl.St.halted; rw [h]; rfl
theorem padS_full {s : ByteArray} (h : s.size = 128) : Sl.padS s 128 = s := by
  apply ByteArray.ext
  show (s.data.toList ++ List.replicate (128 - s.size) 0).toArray = s.data
  rw [h]; simp
theorem write_ok {σ : St} {i : Int} {s : ByteArray} (hr : σ.stops = false) (h0 : 0 ≤ i) (h1 : i < (σ.dur.length : Int)) (hs : s.size = 128) : σ.write i s = σ.tick.put i s ∧ σ.writeE i s = 0 := by
  have hf : σ.fits i s = true := by unfold Sl.St.fits Sl.St.has; simp [h0, h1, hs]
  have hh := halted_FS hr
  simp [Sl.St.write, Sl.St.writeE, hh, hf, padS_full hs]
theorem flush_ok {σ : St} (hr : σ.stops = false) : σ.flush = fl σ ∧ σ.flushE = 0 := by
  have hh := halted_FS hr
  simp [Sl.St.flush, Sl.St.flushE, hh, fl]

/-! ### a head -/
def hdW (n : Nat) : List Int := 1 :: List.replicate n 2
def headB (bl : List Int) : ByteArray := (Sl.padR (strOfNums (writeR (hdW bl.length) (bl.length :: bl)).1) 128).1
theorem hdW_len (n : Nat) : (hdW n).length = n + 1 := by simp [hdW]
theorem hdW_0 (n : Nat) : (hdW n).getD 0 0 = 1 := rfl
theorem hdW_s {n k : Nat} (h : k < n) : (hdW n).getD (k + 1) 0 = 2 := by simp [hdW, List.getD, h]
theorem hdW_ok (n : Nat) : ∀ k, k ≤ n + 1 → okTo (hdW n) k = true
  | 0, _ => rfl
  | 1, _ => by simp [okTo, hdW, wOk]
  | k + 2, h => by
    have ih := hdW_ok n (k + 1) (by omega)
    rw [okTo, ih, hdW_s (by omega)]; rfl
theorem hdW_sum (n : Nat) : ∀ k, k ≤ n → sumTo (hdW n) (k + 1) = 1 + 2 * k
  | 0, _ => by simp [sumTo, hdW]
  | k + 1, h => by
    have ih := hdW_sum n k (by omega)
    rw [sumTo, ih, hdW_s (by omega)]; push_cast; omega
theorem strOf_size (l : List Int) : (strOfNums l).size = l.length := by simp [strOfNums, ByteArray.size]
theorem size_padS (s : ByteArray) (n : Nat) (h : s.size ≤ n) : (Sl.padS s n).size = n := by
  show (s.data.toList ++ List.replicate (n - s.size) 0).toArray.size = n
  have : s.data.toList.length = s.size := by simp
  rw [List.size_toArray, List.length_append, List.length_replicate, this]; omega
theorem write_len (n : Nat) (vs : List Int) : (writeR (hdW n) vs).1.length ≤ 2 * n + 1 := by
  by_cases h : (writeR (hdW n) vs).2 = 0
  · obtain ⟨_, h2⟩ := readR_written (hdW n) vs [] h
    rw [sizeS_good _ (by rw [hdW_len]; exact hdW_ok n _ (Nat.le_refl _)), hdW_len, hdW_sum n n (Nat.le_refl _)] at h2
    omega
  · rw [writeR_err _ _ h]; simp
theorem head_pad {bl : List Int} (h : bl.length ≤ 40) : Sl.padR (strOfNums (writeR (hdW bl.length) (bl.length :: bl)).1) 128 = (headB bl, 0) := by
  have := write_len bl.length (bl.length :: bl)
  unfold headB
  rw [Sl.padR_ok (by omega) (by rw [strOf_size]; omega)]
theorem headB_is {bl : List Int} (h : bl.length ≤ 40) : headB bl = Sl.padS (strOfNums (writeR (hdW bl.length) (bl.length :: bl)).1) 128 := by
  have := write_len bl.length (bl.length :: bl)
  unfold headB
  rw [Sl.padR_ok (by omega) (by rw [strOf_size]; omega)]
  rfl
theorem headB_size {bl : List Int} (h : bl.length ≤ 40) : (headB bl).size = 128 := by
  have := write_len bl.length (bl.length :: bl)
  rw [headB_is h]
  exact size_padS _ _ (by rw [strOf_size]; omega)
/-- what a head says. -/
def cntH (s : ByteArray) : Nat := (decF (bytesOf s) 0 1).toNat
def hdL (s : ByteArray) : List Int := (readTo (hdW (cntH s)) (bytesOf s) (cntH s + 1)).drop 1
theorem cnt_nat (s : ByteArray) : decF (bytesOf s) 0 1 = (cntH s : Int) ∧ cntH s ≤ 255 := by
  have := decF_bd (bytesOf s) (bytesOf_bd s) 1 0
  unfold cntH
  simp at this
  omega
theorem hdL_len (s : ByteArray) : (hdL s).length = cntH s := by simp [hdL, readTo_len]
theorem hdL_cons (s : ByteArray) : readTo (hdW (cntH s)) (bytesOf s) (cntH s + 1) = (cntH s : Int) :: hdL s := by
  have h0 := readTo_get (hdW (cntH s)) (bytesOf s) (cntH s + 1) 0 (by omega)
  have hl := readTo_len (hdW (cntH s)) (bytesOf s) (cntH s + 1)
  unfold hdL
  generalize readTo (hdW (cntH s)) (bytesOf s) (cntH s + 1) = r at *
  cases r with
  | nil => simp at hl
  | cons a r =>
    have h1 : a = decF (bytesOf s) 0 1 := h0
    rw [h1, (cnt_nat s).1]; rfl
theorem hdL_get (s : ByteArray) {k : Nat} (h : k < cntH s) : (hdL s).getD k 0 = decF (bytesOf s) (1 + 2 * k) 2 := by
  have h0 := readTo_get (hdW (cntH s)) (bytesOf s) (cntH s + 1) (k + 1) (by omega)
  rw [hdL_cons, hdW_s h, hdW_sum _ k (by omega)] at h0
  have e : (1 + 2 * (k : Int)).toNat = 1 + 2 * k := by omega
  rw [e] at h0
  exact h0
theorem hdL_bd (s : ByteArray) : ∀ z ∈ hdL s, 0 ≤ z ∧ z ≤ 65535 := by
  intro z hz
  obtain ⟨k, hk, rfl⟩ := List.mem_iff_getElem.1 hz
  have h1 := hdL_get s (k := k) (by rw [hdL_len] at hk; exact hk)
  have e : (hdL s).getD k 0 = (hdL s)[k] := by simp [List.getD, hk]
  rw [← e, h1]
  have := decF_bd (bytesOf s) (bytesOf_bd s) 2 (1 + 2 * k)
  simp at this
  omega
theorem read_hd {s : ByteArray} (hs : s.size = 128) (h : cntH s ≤ 40) : readR (hdW (cntH s)) (bytesOf s) = ((cntH s : Int) :: hdL s, 0) := by
  rw [readR_ok (by rw [hdW_len]; exact hdW_ok _ _ (Nat.le_refl _)) (by rw [bytesOf_len, hdW_len, hdW_sum _ _ (Nat.le_refl _), hs]; omega), hdW_len, hdL_cons]
theorem read_cnt {s : ByteArray} (hs : s.size = 128) : readR (hdW 0) (bytesOf s) = ([(cntH s : Int)], 0) := by
  rw [readR_ok (by decide) (by rw [bytesOf_len, hs]; decide)]
  have h0 := readTo_get (hdW 0) (bytesOf s) 1 0 (by omega)
  have hl := readTo_len (hdW 0) (bytesOf s) 1
  show (readTo (hdW 0) (bytesOf s) 1, (0 : Int)) = _
  generalize readTo (hdW 0) (bytesOf s) 1 = r at *
  match r, hl, h0 with
  | [a], _, h0 =>
    have h1 : a = decF (bytesOf s) 0 1 := h0
    rw [h1, (cnt_nat s).1]
/-- the bytes behind the changes of a head are zeros. -/
def tailZ (s : ByteArray) : Bool := (List.range 128).all fun i => decide (i < 1 + 2 * cntH s) || decide ((bytesOf s).getD i 0 = 0)
theorem tailZ_t {s : ByteArray} : tailZ s = true ↔ ∀ i, i < 128 → 1 + 2 * cntH s ≤ i → (bytesOf s).getD i 0 = 0 := by
  simp only [tailZ, List.all_eq_true, List.mem_range, Bool.or_eq_true, decide_eq_true_eq]
  constructor
  · intro h i hi h2; rcases h i hi with h | h
    · omega
    · exact h
  · intro h i hi
    by_cases h2 : i < 1 + 2 * cntH s
    · exact Or.inl h2
    · exact Or.inr (h i hi (by omega))
theorem strOf_bytes (s : ByteArray) (k : Nat) : strOfNums ((bytesOf s).take k) = ⟨(s.data.toList.take k).toArray⟩ := by
  unfold strOfNums bytesOf
  rw [← List.map_take, List.map_map]
  have : (fun b : UInt8 => b) = ((fun x : Int => UInt8.ofNat x.toNat) ∘ fun b : UInt8 => (b.toNat : Int)) := by
    funext b; simp
  show (⟨((s.data.toList.take k).map ((fun x : Int => UInt8.ofNat x.toNat) ∘ fun b : UInt8 => (b.toNat : Int))).toArray⟩ : ByteArray) = _
  rw [← this, List.map_id']
theorem headB_back {s : ByteArray} (hs : s.size = 128) (h : cntH s ≤ 40) : headB (hdL s) = ⟨(s.data.toList.take (1 + 2 * cntH s) ++ List.replicate (127 - 2 * cntH s) 0).toArray⟩ := by
  have hw := write_read (hdW (cntH s)) (bytesOf s) (bytesOf_bd s) (by rw [hdW_len]; exact hdW_ok _ _ (Nat.le_refl _)) (by rw [bytesOf_len, hdW_len, hdW_sum _ _ (Nat.le_refl _), hs]; omega)
  rw [hdW_len, hdL_cons] at hw
  obtain ⟨hf, he⟩ := hw (cntH s + 1) (Nat.le_refl _)
  rw [hdW_sum _ _ (Nat.le_refl _)] at he
  have hw2 : writeR (hdW (cntH s)) ((cntH s : Int) :: hdL s) = ((bytesOf s).take (1 + 2 * (cntH s : Int)).toNat, 0) := by
    rw [writeR_ok (by rw [hdW_len]; exact hdW_ok _ _ (Nat.le_refl _)) (by rw [hdW_len, List.length_cons, hdL_len]) (by rw [hdW_len]; exact hf), hdW_len, he]
  rw [headB_is (by rw [hdL_len]; exact h), hdL_len, hw2]
  have e : (1 + 2 * (cntH s : Int)).toNat = 1 + 2 * cntH s := by omega
  rw [e, strOf_bytes]
  unfold Sl.padS
  have hl : (⟨(s.data.toList.take (1 + 2 * cntH s)).toArray⟩ : ByteArray).size = 1 + 2 * cntH s := by
    show (s.data.toList.take (1 + 2 * cntH s)).toArray.size = _
    have : s.data.toList.length = s.size := by simp
    rw [List.size_toArray, List.length_take, this, hs]; omega
  rw [hl]
  congr 3
  · congr 1; omega
theorem tail_iff {s : ByteArray} (hs : s.size = 128) (h : cntH s ≤ 40) : (headB (hdL s) = s) ↔ tailZ s = true := by
  have hl : s.data.toList.length = 128 := by rw [← hs]; simp
  rw [headB_back hs h, tailZ_t]
  have e0 : ∀ i, (hi : i < 128) → ((bytesOf s).getD i 0 = 0 ↔ s.data.toList[i]'(by omega) = 0) := by
    intro i hi
    simp only [bytesOf, List.getD, List.getElem?_map]
    rw [List.getElem?_eq_getElem (by omega)]
    simp only [Option.map_some, Option.getD_some]
    constructor
    · intro h
      have h' : (s.data.toList[i]'(by omega)).toNat = 0 := by omega
      exact UInt8.toNat_inj.1 h'
    · intro h; rw [h]; rfl
  constructor
  · intro he i hi h2
    rw [e0 i hi]
    have : (s.data.toList.take (1 + 2 * cntH s) ++ List.replicate (127 - 2 * cntH s) 0) = s.data.toList := by
      have := congrArg (fun b : ByteArray => b.data.toList) he
      simpa using this
    have h3 : (s.data.toList.take (1 + 2 * cntH s) ++ List.replicate (127 - 2 * cntH s) 0)[i]? = s.data.toList[i]? := by rw [this]
    rw [List.getElem?_append_right (by rw [List.length_take, hl]; omega), List.getElem?_replicate, List.getElem?_eq_getElem (by omega)] at h3
    split at h3
    · exact (Option.some.inj h3).symm
    · cases h3
  · intro hz
    apply ByteArray.ext
    show (s.data.toList.take (1 + 2 * cntH s) ++ List.replicate (127 - 2 * cntH s) 0).toArray = s.data
    have : s.data.toList.take (1 + 2 * cntH s) ++ List.replicate (127 - 2 * cntH s) 0 = s.data.toList := by
      apply List.ext_getElem
      · rw [List.length_append, List.length_take, List.length_replicate, hl]; omega
      · intro i h1 h2
        rw [hl] at h2
        by_cases hi : i < 1 + 2 * cntH s
        · rw [List.getElem_append_left (by rw [List.length_take, hl]; omega), List.getElem_take]
        · rw [List.getElem_append_right (by rw [List.length_take, hl]; omega), List.getElem_replicate]
          exact ((e0 i h2).1 (hz i h2 (by omega))).symm
    rw [this]
/-- may a head be? -/
def hdOk (s : ByteArray) (N : Nat) : Bool := decide (cntH s ≤ 40) && (chB N (hdL s) && decide (headB (hdL s) = s))
def hdOkR (s : ByteArray) (N : Nat) : Bool := decide (cntH s ≤ 40) && (tailZ s && chB N (hdL s))
theorem hdOk_eq {s : ByteArray} (hs : s.size = 128) (N : Nat) : hdOk s N = hdOkR s N := by
  unfold hdOk hdOkR
  by_cases h : cntH s ≤ 40
  · have := tail_iff hs h
    by_cases ht : tailZ s = true
    · rw [this.2 ht, ht]; simp
    · rw [decide_eq_false (fun e => ht (this.1 e)), Bool.eq_false_iff.2 ht]; simp
  · rw [decide_eq_false h]; rfl
end Go.Proofs.Ytpljifeebbeakaa
