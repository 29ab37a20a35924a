/-
  PLAIN MATHEMATICS of layer 1's records: widths, sums, bytes of a value, values of bytes. Nothing of the program is named here; no condition.
-/
namespace Go.Proofs.Ytpljifeebbeakaa

def wOk (z : Int) : Bool := decide (z = 1 ∨ z = 2 ∨ z = 4)
theorem wOk_t {z : Int} (h : z = 1 ∨ z = 2 ∨ z = 4) : wOk z = true := by simp [wOk, h]
theorem wOk_f {z : Int} (h : ¬ (z = 1 ∨ z = 2 ∨ z = 4)) : wOk z = false := by simp [wOk]; omega
theorem wOk_d {z : Int} (h : wOk z = true) : z = 1 ∨ z = 2 ∨ z = 4 := by simpa [wOk] using h
theorem wOk_n {z : Int} (h : wOk z = false) : ¬ (z = 1 ∨ z = 2 ∨ z = 4) := by simpa [wOk] using h

def okTo (ws : List Int) : Nat → Bool
  | 0 => true
  | k + 1 => okTo ws k && wOk (ws.getD k 0)
def sumTo (ws : List Int) : Nat → Int
  | 0 => 0
  | k + 1 => sumTo ws k + ws.getD k 0
def sizeS (ws : List Int) : Int := if okTo ws ws.length = true then sumTo ws ws.length else -1

theorem okTo_mono (ws : List Int) (k : Nat) : ∀ n, k ≤ n → okTo ws n = true → okTo ws k = true := by
  intro n
  induction n with
  | zero => intro h; have : k = 0 := by omega
            subst this; exact id
  | succ n ih =>
    intro h ho
    by_cases e : k = n + 1
    · subst e; exact ho
    · simp [okTo] at ho; exact ih (by omega) ho.1
theorem okTo_at (ws : List Int) {k n : Nat} (h : k < n) (ho : okTo ws n = true) : wOk (ws.getD k 0) = true := by
  have := okTo_mono ws (k + 1) n h ho
  simp only [okTo, Bool.and_eq_true] at this
  exact this.2
theorem sizeS_bad (ws : List Int) {k : Nat} (h : k < ws.length) (hb : wOk (ws.getD k 0) = false) : sizeS ws = -1 := by
  unfold sizeS
  rw [if_neg]
  intro ho
  have := okTo_at ws h ho
  rw [hb] at this; cases this
theorem sizeS_good (ws : List Int) (h : okTo ws ws.length = true) : sizeS ws = sumTo ws ws.length := by unfold sizeS; rw [if_pos h]
theorem sumTo_bd (ws : List Int) : ∀ k, okTo ws k = true → 0 ≤ sumTo ws k ∧ sumTo ws k ≤ 4 * k := by
  intro k
  induction k with
  | zero => intro _; simp [sumTo]
  | succ k ih =>
    intro h
    simp only [okTo, Bool.and_eq_true] at h
    have h1 := ih h.1
    have h2 := wOk_d h.2
    simp only [sumTo]
    generalize ws.getD k 0 = z at *
    generalize sumTo ws k = y at *
    omega
theorem sizeS_bd (ws : List Int) : -1 ≤ sizeS ws ∧ sizeS ws ≤ 4 * ws.length := by
  unfold sizeS
  split
  · rename_i h; have := sumTo_bd ws _ h; omega
  · omega
theorem sizeS_neg (ws : List Int) : sizeS ws < 0 ↔ ¬ okTo ws ws.length = true := by
  unfold sizeS
  split
  · rename_i h; have := sumTo_bd ws _ h; constructor
    · intro; omega
    · intro h'; exact absurd h h'
  · rename_i h; exact ⟨fun _ => h, fun _ => by omega⟩

def mostOf (z : Int) : Int := if z = 1 then 255 else if z = 2 then 65535 else 4294967295
def fitB (v z : Int) : Bool := decide (0 ≤ v ∧ v ≤ mostOf z)
def fitTo (ws vs : List Int) : Nat → Bool
  | 0 => true
  | k + 1 => fitTo ws vs k && fitB (vs.getD k 0) (ws.getD k 0)
/-- the first n bytes of v, least first. -/
def encF (v : Int) : Nat → List Int
  | 0 => []
  | n + 1 => encF v n ++ [(v / 256 ^ n) % 256]
def encTo (ws vs : List Int) : Nat → List Int
  | 0 => []
  | k + 1 => encTo ws vs k ++ encF (vs.getD k 0) (ws.getD k 0).toNat
theorem encF_len (v : Int) (n : Nat) : (encF v n).length = n := by
  induction n with
  | zero => rfl
  | succ n ih => simp [encF, ih]
theorem encTo_len (ws vs : List Int) : ∀ k, okTo ws k = true → ((encTo ws vs k).length : Int) = sumTo ws k := by
  intro k
  induction k with
  | zero => intro _; rfl
  | succ k ih =>
    intro h
    simp only [okTo, Bool.and_eq_true] at h
    have h1 := ih h.1
    have h2 := wOk_d h.2
    simp only [encTo, sumTo, List.length_append, encF_len]
    generalize ws.getD k 0 = z at *
    omega
theorem fitTo_mono (ws vs : List Int) (k : Nat) : ∀ n, k ≤ n → fitTo ws vs n = true → fitTo ws vs k = true := by
  intro n
  induction n with
  | zero => intro h; have : k = 0 := by omega
            subst this; exact id
  | succ n ih =>
    intro h ho
    by_cases e : k = n + 1
    · subst e; exact ho
    · simp only [fitTo, Bool.and_eq_true] at ho; exact ih (by omega) ho.1
theorem fitTo_at (ws vs : List Int) {k n : Nat} (h : k < n) (ho : fitTo ws vs n = true) : fitB (vs.getD k 0) (ws.getD k 0) = true := by
  have := fitTo_mono ws vs (k + 1) n h ho
  simp only [fitTo, Bool.and_eq_true] at this
  exact this.2
/-- what Write answers: its bytes and its error's number. -/
def writeR (ws vs : List Int) : List Int × Int :=
  if okTo ws ws.length = true ∧ ws.length = vs.length then (if fitTo ws vs ws.length = true then (encTo ws vs ws.length, 0) else ([], 3)) else ([], 1)
theorem writeR_arg {ws vs : List Int} (h : ¬ (okTo ws ws.length = true ∧ ws.length = vs.length)) : writeR ws vs = ([], 1) := by unfold writeR; rw [if_neg h]
theorem writeR_range {ws vs : List Int} (h : okTo ws ws.length = true) (hl : ws.length = vs.length) {k : Nat} (hk : k < ws.length) (hf : fitB (vs.getD k 0) (ws.getD k 0) = false) : writeR ws vs = ([], 3) := by
  unfold writeR
  rw [if_pos ⟨h, hl⟩, if_neg]
  intro ho
  have := fitTo_at ws vs hk ho
  rw [hf] at this; cases this
theorem writeR_ok {ws vs : List Int} (h : okTo ws ws.length = true) (hl : ws.length = vs.length) (hf : fitTo ws vs ws.length = true) : writeR ws vs = (encTo ws vs ws.length, 0) := by
  unfold writeR
  rw [if_pos ⟨h, hl⟩, if_pos hf]

end Go.Proofs.Ytpljifeebbeakaa
