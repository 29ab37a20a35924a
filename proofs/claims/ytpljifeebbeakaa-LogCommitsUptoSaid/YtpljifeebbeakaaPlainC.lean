/-
  PLAIN MATHEMATICS of layer 1: what is written is read again; what is read is written again; a record is cut in two. Conditions stand in each theorem.
-/
import Derived.Test.YtpljifeebbeakaaPlainB
namespace Go.Proofs.Ytpljifeebbeakaa

theorem gd_left (a b : List Int) (i : Nat) (h : i < a.length) : (a ++ b).getD i 0 = a.getD i 0 := by simp only [List.getD, List.getElem?_append_left h]
theorem gd_right (a b : List Int) (i : Nat) (h : a.length ≤ i) : (a ++ b).getD i 0 = b.getD (i - a.length) 0 := by simp only [List.getD, List.getElem?_append_right h]
theorem mod_step (v : Int) (n : Nat) (h : 0 ≤ v) : v % 256 ^ (n + 1) = v % 256 + 256 * (v / 256 % 256 ^ n) := by
  obtain ⟨m, rfl⟩ := Int.eq_ofNat_of_zero_le h
  have := @Nat.mod_mul 256 (256 ^ n) m
  have e : (256 : Nat) ^ (n + 1) = 256 * 256 ^ n := by rw [Nat.pow_succ, Nat.mul_comm]
  rw [← e] at this
  have h2 : (((m % 256 ^ (n + 1) : Nat) : Int)) = ((m % 256 + 256 * (m / 256 % 256 ^ n) : Nat) : Int) := by rw [this]
  simpa using h2
theorem div_step (v : Int) (n : Nat) : v / 256 ^ (n + 1) = v / 256 / 256 ^ n := by
  rw [Int.pow_succ, Int.mul_comm, Int.ediv_ediv_of_nonneg (by decide)]
theorem dec_enc (l : List Int) : ∀ (n a : Nat) (v : Int), 0 ≤ v → (∀ i, i < n → l.getD (a + i) 0 = (v / 256 ^ i) % 256) → decF l a n = v % 256 ^ n := by
  intro n
  induction n with
  | zero => intro a v _ _; simp [decF, Int.emod_one]
  | succ n ih =>
    intro a v hv h
    rw [mod_step v n hv]
    simp only [decF]
    have h0 := h 0 (by omega)
    rw [Nat.add_zero, Int.pow_zero, Int.ediv_one] at h0
    rw [h0, ih (a + 1) (v / 256) (Int.ediv_nonneg hv (by decide)) (fun i hi => by
      have := h (i + 1) (by omega)
      rw [show a + (i + 1) = a + 1 + i by omega, div_step] at this
      exact this)]
theorem encF_get (v : Int) : ∀ (n i : Nat), i < n → (encF v n).getD i 0 = (v / 256 ^ i) % 256 := by
  intro n
  induction n with
  | zero => intro i h; omega
  | succ n ih =>
    intro i h
    simp only [encF]
    by_cases hi : i < n
    · rw [gd_left _ _ _ (by rw [encF_len]; exact hi)]
      exact ih i hi
    · have : i = n := by omega
      subst this
      rw [gd_right _ _ _ (by rw [encF_len]; exact Nat.le_refl _), encF_len]
      simp
theorem encTo_get (ws vs : List Int) : ∀ (n k i : Nat), okTo ws n = true → k < n → i < (ws.getD k 0).toNat → (encTo ws vs n).getD ((sumTo ws k).toNat + i) 0 = (vs.getD k 0 / 256 ^ i) % 256 := by
  intro n
  induction n with
  | zero => intro k i _ h; omega
  | succ n ih =>
    intro k i ho h hi
    have ho' : okTo ws n = true := okTo_mono ws n (n + 1) (by omega) ho
    have hl := encTo_len ws vs n ho'
    simp only [encTo]
    by_cases hk : k < n
    · have h1 := sumTo_mono ws (k + 1) n hk ho'
      have h2 := sumTo_bd ws k (okTo_mono ws k n (by omega) ho')
      simp only [sumTo] at h1
      rw [gd_left _ _ _ (by omega)]
      exact ih k i ho' hk hi
    · have : k = n := by omega
      subst this
      have h2 := sumTo_bd ws k ho'
      rw [gd_right _ _ _ (by omega), show (sumTo ws k).toNat + i - (encTo ws vs k).length = i by omega]
      exact encF_get _ _ _ hi
theorem fit_lt {v z : Int} (hz : wOk z = true) (h : fitB v z = true) : 0 ≤ v ∧ v < 256 ^ z.toNat := by
  have h1 := wOk_d hz
  simp only [fitB, decide_eq_true_eq] at h
  refine ⟨h.1, ?_⟩
  rcases h1 with rfl | rfl | rfl
  · have := h.2; simp [mostOf] at this; show v < 256 ^ 1; omega
  · have := h.2; simp [mostOf] at this; show v < 256 ^ 2; omega
  · have := h.2; simp [mostOf] at this; show v < 256 ^ 4; omega
theorem lt_fit {v z : Int} (hz : wOk z = true) (h0 : 0 ≤ v) (h : v < 256 ^ z.toNat) : fitB v z = true := by
  have h1 := wOk_d hz
  simp only [fitB, decide_eq_true_eq]
  refine ⟨h0, ?_⟩
  rcases h1 with rfl | rfl | rfl
  · have : v < 256 ^ 1 := h; simp [mostOf]; omega
  · have : v < 256 ^ 2 := h; simp [mostOf]; omega
  · have : v < 256 ^ 4 := h; simp [mostOf]; omega
theorem read_written (ws vs ms : List Int) (ho : okTo ws ws.length = true) (hl : ws.length = vs.length) (hf : fitTo ws vs ws.length = true) :
    readTo ws (encTo ws vs ws.length ++ ms) ws.length = vs := by
  have key : ∀ k, k ≤ ws.length → readTo ws (encTo ws vs ws.length ++ ms) k = vs.take k := by
    intro k
    induction k with
    | zero => intro _; simp [readTo]
    | succ k ih =>
      intro hk
      have hz := okTo_at ws (k := k) (n := ws.length) (by omega) ho
      have hz' := wOk_d hz
      have hfit := fit_lt hz (fitTo_at ws vs (k := k) (by omega) hf)
      have hlen := encTo_len ws vs ws.length ho
      have hs := sumTo_mono ws (k + 1) ws.length hk ho
      have hs0 := sumTo_bd ws k (okTo_mono ws k ws.length (by omega) ho)
      simp only [sumTo] at hs
      simp only [readTo]
      rw [ih (by omega), dec_enc _ _ _ (vs.getD k 0) hfit.1 (fun i hi => by
        rw [gd_left _ _ _ (by omega)]
        exact encTo_get ws vs ws.length k i ho (by omega) hi), Int.emod_eq_of_lt hfit.1 hfit.2]
      rw [List.take_add_one, List.getElem?_eq_getElem (show k < vs.length by omega)]
      simp [List.getD, List.getElem?_eq_getElem (show k < vs.length by omega)]
  rw [key ws.length (Nat.le_refl _), List.take_of_length_le (by omega)]
/-- P1.2, first half: a record that was written, whatever stands behind it, is read again. -/
theorem readR_written (ws vs ms : List Int) (h : (writeR ws vs).2 = 0) : readR ws ((writeR ws vs).1 ++ ms) = (vs, 0) ∧ ((writeR ws vs).1.length : Int) = sizeS ws := by
  unfold writeR at h ⊢
  split at h
  · rename_i hc
    split at h
    · rename_i hf
      rw [if_pos hc, if_pos hf]
      have hlen := encTo_len ws vs ws.length hc.1
      refine ⟨?_, by rw [sizeS_good ws hc.1]; exact hlen⟩
      rw [readR_ok hc.1 (by simp only [List.length_append]; omega), read_written ws vs ms hc.1 hc.2 hf]
    · simp at h
  · simp at h

theorem encF_cons (v : Int) : ∀ n, encF v (n + 1) = v % 256 :: encF (v / 256) n := by
  intro n
  induction n with
  | zero => simp [encF]
  | succ n ih =>
    rw [show encF v (n + 1 + 1) = encF v (n + 1) ++ [(v / 256 ^ (n + 1)) % 256] from rfl, ih, div_step]
    rfl
theorem enc_dec (l : List Int) (hb : ∀ i, 0 ≤ l.getD i 0 ∧ l.getD i 0 ≤ 255) : ∀ n a, a + n ≤ l.length → encF (decF l a n) n = (l.drop a).take n := by
  intro n
  induction n with
  | zero => intro a _; simp [encF]
  | succ n ih =>
    intro a ha
    have h1 := hb a
    rw [encF_cons, decF]
    have e1 : (l.getD a 0 + 256 * decF l (a + 1) n) % 256 = l.getD a 0 := by omega
    have e2 : (l.getD a 0 + 256 * decF l (a + 1) n) / 256 = decF l (a + 1) n := by omega
    rw [e1, e2, ih (a + 1) (by omega), List.drop_eq_getElem_cons (show a < l.length by omega), List.take_succ_cons]
    simp [List.getD, List.getElem?_eq_getElem (show a < l.length by omega)]
theorem readTo_get (ws bs : List Int) : ∀ n k, k < n → (readTo ws bs n).getD k 0 = decF bs (sumTo ws k).toNat (ws.getD k 0).toNat := by
  intro n
  induction n with
  | zero => intro k h; omega
  | succ n ih =>
    intro k h
    simp only [readTo]
    by_cases hk : k < n
    · rw [gd_left _ _ _ (by rw [readTo_len]; exact hk)]; exact ih k hk
    · have : k = n := by omega
      subst this
      rw [gd_right _ _ _ (by rw [readTo_len]; exact Nat.le_refl _), readTo_len]
      simp
theorem write_read (ws bs : List Int) (hb : ∀ i, 0 ≤ bs.getD i 0 ∧ bs.getD i 0 ≤ 255) (ho : okTo ws ws.length = true) (hs : ¬ (bs.length : Int) < sumTo ws ws.length) :
    ∀ k, k ≤ ws.length → fitTo ws (readTo ws bs ws.length) k = true ∧ encTo ws (readTo ws bs ws.length) k = bs.take (sumTo ws k).toNat := by
  intro k
  induction k with
  | zero => intro _; simp [fitTo, encTo, sumTo]
  | succ k ih =>
    intro hk
    obtain ⟨h1, h2⟩ := ih (by omega)
    have hz := okTo_at ws (k := k) (n := ws.length) (by omega) ho
    have hz' := wOk_d hz
    have hs1 := sumTo_mono ws (k + 1) ws.length hk ho
    have hs0 := sumTo_bd ws k (okTo_mono ws k ws.length (by omega) ho)
    simp only [sumTo] at hs1
    have hd := decF_bd bs hb (ws.getD k 0).toNat (sumTo ws k).toNat
    refine ⟨?_, ?_⟩
    · simp only [fitTo, h1, readTo_get ws bs ws.length k (by omega), lt_fit hz hd.1 hd.2, Bool.and_self]
    · simp only [encTo, h2, readTo_get ws bs ws.length k (by omega), sumTo]
      rw [enc_dec bs hb _ _ (by omega), show (sumTo ws k + ws.getD k 0).toNat = (sumTo ws k).toNat + (ws.getD k 0).toNat by omega, List.take_add]
/-- P1.2, second half: what is read is written as the bytes that were read. -/
theorem writeR_read (ws bs : List Int) (hb : ∀ i, 0 ≤ bs.getD i 0 ∧ bs.getD i 0 ≤ 255) (h : (readR ws bs).2 = 0) : ∃ k, k ≤ bs.length ∧ writeR ws (readR ws bs).1 = (bs.take k, 0) := by
  unfold readR at h ⊢
  split at h
  · rename_i ho
    split at h
    · simp at h
    · rename_i hs
      rw [if_pos ho, if_neg hs]
      obtain ⟨h1, h2⟩ := write_read ws bs hb ho hs ws.length (Nat.le_refl _)
      have := sumTo_bd ws ws.length ho
      refine ⟨(sumTo ws ws.length).toNat, by omega, ?_⟩
      rw [writeR_ok ho (by rw [readTo_len]) h1, h2]
  · simp at h

/-- the moulds one behind the other. -/
theorem okTo_take (ws : List Int) (k : Nat) : ∀ n, n ≤ k → okTo (ws.take k) n = okTo ws n := by
  intro n
  induction n with
  | zero => intro _; rfl
  | succ n ih => intro h; simp only [okTo, ih (by omega)]; congr 2; simp [List.getD, show n < k by omega]
theorem getD_take (ws : List Int) {k n : Nat} (h : n < k) : (ws.take k).getD n 0 = ws.getD n 0 := by simp [List.getD, h]
theorem getD_drop (ws : List Int) (k n : Nat) : (ws.drop k).getD n 0 = ws.getD (k + n) 0 := by simp [List.getD, List.getElem?_drop]
theorem fitTo_take (ws vs : List Int) (k : Nat) : ∀ n, n ≤ k → fitTo (ws.take k) (vs.take k) n = fitTo ws vs n ∧ encTo (ws.take k) (vs.take k) n = encTo ws vs n := by
  intro n
  induction n with
  | zero => intro _; exact ⟨rfl, rfl⟩
  | succ n ih =>
    intro h
    have := ih (by omega)
    simp only [fitTo, encTo, this.1, this.2, getD_take ws (show n < k by omega), getD_take vs (show n < k by omega), and_self]
theorem drop_all (ws vs : List Int) (k : Nat) : ∀ n, okTo ws (k + n) = true → fitTo ws vs (k + n) = true →
    okTo (ws.drop k) n = true ∧ fitTo (ws.drop k) (vs.drop k) n = true ∧ encTo ws vs k ++ encTo (ws.drop k) (vs.drop k) n = encTo ws vs (k + n) := by
  intro n
  induction n with
  | zero => intro _ _; simp [okTo, fitTo, encTo]
  | succ n ih =>
    intro h1 h2
    rw [← Nat.add_assoc] at h1 h2
    simp only [okTo, Bool.and_eq_true] at h1
    simp only [fitTo, Bool.and_eq_true] at h2
    obtain ⟨a, b, c⟩ := ih h1.1 h2.1
    simp only [okTo, fitTo, encTo, getD_drop, a, b, h1.2, h2.2, Bool.and_self, true_and]
    rw [← List.append_assoc, c]
    rfl
/-- a record of two moulds, one behind the other, is the first one's and the second one's. -/
theorem writeR_split (ws vs : List Int) (k : Nat) (hk : k ≤ ws.length) (h : (writeR ws vs).2 = 0) :
    (writeR (ws.take k) (vs.take k)).2 = 0 ∧ (writeR (ws.drop k) (vs.drop k)).2 = 0 ∧ (writeR (ws.take k) (vs.take k)).1 ++ (writeR (ws.drop k) (vs.drop k)).1 = (writeR ws vs).1 := by
  unfold writeR at h
  split at h
  · rename_i hc
    split at h
    · rename_i hf
      obtain ⟨ho, hl⟩ := hc
      have hk' : k ≤ vs.length := by omega
      have e1 : (ws.take k).length = k := by simp; omega
      have ha := fitTo_take ws vs k k (Nat.le_refl _)
      have hw1 : writeR (ws.take k) (vs.take k) = (encTo ws vs k, 0) := by
        rw [writeR_ok (by rw [e1, okTo_take ws k k (Nat.le_refl _)]; exact okTo_mono ws k _ hk ho) (by simp; omega) (by rw [e1, ha.1]; exact fitTo_mono ws vs k _ hk hf), e1, ha.2]
      obtain ⟨d1, d2, d3⟩ := drop_all ws vs k (ws.length - k) (by rw [show k + (ws.length - k) = ws.length by omega]; exact ho) (by rw [show k + (ws.length - k) = ws.length by omega]; exact hf)
      have e2 : (ws.drop k).length = ws.length - k := by simp
      have hw2 : writeR (ws.drop k) (vs.drop k) = (encTo (ws.drop k) (vs.drop k) (ws.length - k), 0) := by
        rw [writeR_ok (by rw [e2]; exact d1) (by simp; omega) (by rw [e2]; exact d2), e2]
      rw [hw1, hw2, writeR_ok ho hl hf]
      refine ⟨rfl, rfl, ?_⟩
      rw [show k + (ws.length - k) = ws.length by omega] at d3
      exact d3
    · simp at h
  · simp at h
theorem writeR_err (ws vs : List Int) (h : (writeR ws vs).2 ≠ 0) : (writeR ws vs).1 = [] := by
  unfold writeR at h ⊢
  split
  · rename_i hc
    split
    · rename_i hf; rw [if_pos hc, if_pos hf] at h; simp at h
    · rfl
  · rfl
theorem writeR_len (ws vs : List Int) : (writeR ws vs).1.length ≤ 4 * ws.length := by
  unfold writeR
  split
  · rename_i hc
    split
    · have h1 := encTo_len ws vs ws.length hc.1; have h2 := sumTo_bd ws ws.length hc.1; simp only; omega
    · simp
  · simp
theorem writeR_bytes (ws vs : List Int) : ∀ b ∈ (writeR ws vs).1, 0 ≤ b ∧ b ≤ 255 := by
  have h1 : ∀ (v : Int) n, ∀ b ∈ encF v n, 0 ≤ b ∧ b ≤ 255 := by
    intro v n
    induction n with
    | zero => intro b hb; simp [encF] at hb
    | succ n ih =>
      intro b hb
      simp only [encF, List.mem_append, List.mem_singleton] at hb
      rcases hb with hb | rfl
      · exact ih b hb
      · generalize v / 256 ^ n = q; omega
  have h2 : ∀ k, ∀ b ∈ encTo ws vs k, 0 ≤ b ∧ b ≤ 255 := by
    intro k
    induction k with
    | zero => intro b hb; simp [encTo] at hb
    | succ k ih =>
      intro b hb
      simp only [encTo, List.mem_append] at hb
      rcases hb with hb | hb
      · exact ih b hb
      · exact h1 _ _ b hb
  unfold writeR
  split
  · split
    · exact h2 _
    · simp
  · simp

end Go.Proofs.Ytpljifeebbeakaa
