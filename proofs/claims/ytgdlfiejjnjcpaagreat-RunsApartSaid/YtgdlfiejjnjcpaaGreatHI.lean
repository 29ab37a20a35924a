/-
  WORDS for Save: a file's card, spans and groups in boxes; what Lists and Load tell of a file. Condition: a deal on a calm slab.
-/
import Derived.Test.YtgdlfiejjnjcpaaGreatHG
set_option linter.unusedVariables false
set_option linter.unusedSimpArgs false
set_option maxRecDepth 100000
set_option maxHeartbeats 4000000
namespace Go.Proofs.YtgdlfiejjnjcpaaGreat.Dl
open Go.RowKit
open Mk
open Sl (Turns)
open Kr (crv rightK kf kb kc KBox cells3 I64 inB)

/-- a row of one's own lies in boxes. -/
theorem own_frE {w : World} {base n sz : Nat} {e : TypeId} {v : Value} {xs : List Value} (h : w.ownsRow base e sz v n xs) (he : e ≠ 102 ∧ e ≠ 68) : ∃ E : Bxs, Bxs.fit E w ∧ (∀ x ∈ E, base ≤ x.1 ∧ x.2.2 = e) ∧ ∀ w', Bxs.fit E w' → w'.ownsRow base e sz v n xs := by
  rcases h.2 with ⟨rfl, h0⟩ | ⟨g, cap, cur, rfl, h1, h2, h3⟩
  · exact ⟨[], by simp [Bxs.fit], by simp, fun w' _ => ⟨h.1, .inl ⟨rfl, h0⟩⟩⟩
  · exact ⟨[(g, cur, e)], Bxs.one h2 he, by simp [h1], fun w' hf => ⟨h.1, .inr ⟨g, cap, cur, rfl, h1, (hf _ (List.mem_singleton.2 rfl)).1, h3⟩⟩⟩
theorem SpsAt.sub {w : World} {B n : Nat} {A : Option Addr} {l : List Sp} (h : SpsAt w B A n l) (b o k j : Nat) (hA : 0 < j → A = some ⟨b, o, none⟩) (hk : k + j ≤ n) : SpsAt w B (some ⟨b, o + k * 3, none⟩) j ((l.drop k).take j) := by
  refine ⟨by rw [List.length_take, List.length_drop, h.len]; omega, fun s hs => h.2.1 s (List.mem_of_mem_drop (List.mem_of_mem_take hs)), fun t ht => ?_⟩
  obtain ⟨b', o', e, hb, g1, g2, g3⟩ := h.at_ (k := k + t) (by omega)
  rw [hA (by omega)] at e
  injection e with e
  injection e with e1 e2
  subst e1
  subst e2
  have hg : ((l.drop k).take j).getD t Sp.z = l.getD (k + t) Sp.z := by
    simp only [List.getD, List.getElem?_take, if_pos ht, List.getElem?_drop]
  rw [hg]
  exact ⟨b, o + k * 3, rfl, hb, by rw [show o + k * 3 + t * 3 = o + (k + t) * 3 by omega]; exact g1, by rw [show o + k * 3 + t * 3 + 1 = o + (k + t) * 3 + 1 by omega]; exact g2, by rw [show o + k * 3 + t * 3 + 2 = o + (k + t) * 3 + 2 by omega]; exact g3⟩
theorem SpsAt.nil (w : World) (B : Nat) (A : Option Addr) : SpsAt w B A 0 [] := ⟨rfl, by simp, fun k hk => absurd hk (Nat.not_lt_zero _)⟩
theorem SpsAt.take {w : World} {B n : Nat} {A : Option Addr} {l : List Sp} (h : SpsAt w B A n l) (j : Nat) (hj : j ≤ n) : SpsAt w B A j (l.take j) := by
  refine ⟨by rw [List.length_take, h.len]; omega, fun s hs => h.2.1 s (List.mem_of_mem_take hs), fun t ht => ?_⟩
  have hg : (l.take j).getD t Sp.z = l.getD t Sp.z := by simp only [List.getD, List.getElem?_take, if_pos ht]
  rw [hg]
  exact h.at_ (by omega)
/-- spans that lie in boxes of E. -/
def KpS (E : Bxs) (A : Option Addr) (n : Nat) (l : List Sp) : Prop := ∀ W, Bxs.fit E W → SpsAt W W.heap.size A n l
theorem sps_form {w : World} {base : Nat} {v : Value} {l : List Sp} (h : w.ownsRow base 85 3 v l.length (spsCells l)) : (v = .slice none 0 0 ∧ l = []) ∨ ∃ g c, v = .slice (some ⟨g, 0, none⟩) l.length c ∧ l.length ≤ c ∧ base ≤ g := by
  rcases h.2 with ⟨rfl, h0⟩ | ⟨g, cap, cur, rfl, h1, h2, h3, _⟩
  · refine .inl ⟨rfl, ?_⟩
    exact List.eq_nil_of_length_eq_zero h0
  · exact .inr ⟨g, cap, rfl, h3, h1⟩
theorem grps_of {E6 E7 : Bxs} {gl ln c7 n m_ base : Nat} {A7 : Option Addr} {l : List Sp} (h6 : KpS E6 (some ⟨gl, 0, none⟩) ln l) (h7 : ∀ W, Bxs.fit E7 W → W.ownsRow base 28 1 (.slice A7 n c7) n ((List.finRange n).map (Cs.chunkVal gl 9 m_))) (hl : l.length = ln) (hm : m_ = ln - 3) (hq : ∀ k, k < n ↔ 20 * k < m_) :
    GrpsF (E7 ++ E6) (.slice A7 n c7) n (l.drop 3) := by
  refine ⟨A7, c7, rfl, fun W hW t ht => ?_⟩
  have f7 : Bxs.fit E7 W := hW.sub fun x hx => List.mem_append_left _ hx
  have f6 : Bxs.fit E6 W := hW.sub fun x hx => List.mem_append_right _ hx
  have o7 := h7 W f7
  obtain ⟨g, cap, e, hbg, hlt⟩ := o7.form (by omega)
  injection e with e1 e2 e3
  subst e1
  subst e3
  have hc := o7.cellAt t (by omega)
  have hx : ((List.finRange n).map (Cs.chunkVal gl 9 m_))[t]? = some (Cs.chunkVal gl 9 m_ (⟨t, ht⟩ : Fin n)) := by
    rw [List.getElem?_map, List.getElem?_eq_getElem (by simpa using ht)]
    simp
  rw [hx] at hc
  have hlen : (chk (l.drop 3) t).length = Cs.lenC m_ t := by
    rw [chk_len, List.length_drop, hl]
    unfold Cs.lenC
    omega
  have hlt2 := (hq t).1 ht
  have hle : Cs.lenC m_ t ≤ m_ - 20 * t := by unfold Cs.lenC; omega
  refine ⟨g, 0, some ⟨gl, 9 + 20 * t * 3, none⟩, Cs.lenC m_ t, rfl, ?_, ?_⟩
  · rw [Nat.zero_add, hlen]
    exact hc
  · have hs := SpsAt.sub (h6 W f6) gl 0 (3 + 20 * t) (Cs.lenC m_ t) (fun _ => rfl) (by omega)
    have e9 : 0 + (3 + 20 * t) * 3 = 9 + 20 * t * 3 := by omega
    have el : (l.drop (3 + 20 * t)).take (Cs.lenC m_ t) = chk (l.drop 3) t := by
      unfold chk
      rw [List.drop_drop]
      have hlx : (l.drop (3 + 20 * t)).length = m_ - 20 * t := by rw [List.length_drop, hl]; omega
      rcases Nat.lt_or_ge 20 (m_ - 20 * t) with h | h
      · rw [show Cs.lenC m_ t = 20 by unfold Cs.lenC; omega]
      · rw [List.take_of_length_le (by rw [hlx]; unfold Cs.lenC; omega), List.take_of_length_le (by rw [hlx]; omega)]
    rw [e9, el, ← hlen] at hs
    exact hs
theorem grps_nil (E : Bxs) (A : Option Addr) (c : Nat) (l : List Sp) : GrpsF E (.slice A 0 c) 0 l := ⟨A, c, rfl, fun W hW t ht => absurd ht (Nat.not_lt_zero _)⟩
/-- a file's card, of format Two. -/
structure TwoAt (w : World) (Bc : Nat) (V : List ByteArray) (b : Nat) (m : ByteArray) (x : Cd) (A : Option Addr) (n kp : Nat) (zs L : List Int) : Prop where
  cd : CdAt w Bc (cdv x none 0 0 A n kp) x
  hB : Bc ≤ w.heap.size
  two : isTwo x = true
  rs : x.rs = (ofR zs).take 3
  fl : FileAt V b m x.ov zs L
  pt : ptsOk b zs = true
  sm : smB zs = true
  ln : zs.length ≤ 65536
  b2 : b ≤ 400
section
variable {w w' : World} {Bc : Nat} {V : List ByteArray} {b : Nat} {m : ByteArray} {x : Cd} {A : Option Addr} {n kp : Nat} {zs L : List Int}
theorem TwoAt.below (h : TwoAt w Bc V b m x A n kp zs L) (hb : Below w.heap.size w w') : TwoAt w' Bc V b m x A n kp zs L := ⟨h.cd.below hb h.hB, Nat.le_trans h.hB hb.size, h.two, h.rs, h.fl, h.pt, h.sm, h.ln, h.b2⟩
theorem TwoAt.right (h : TwoAt w Bc V b m x A n kp zs L) : rightS b (ofR zs) = true := of_right h.b2 h.pt h.sm h.ln
theorem TwoAt.load (h : TwoAt w Bc V b m x A n kp zs L) : ldR V b x.rs x.ov = some (ofR zs, L) := by rw [h.rs]; exact h.fl.load h.right
end
theorem need_le {b : Nat} {zs : List Int} (h : rightS b (ofR zs) = true) : need zs ≤ 6 := by
  have := rightS_len h
  unfold need
  omega
section
variable {w0 w : World} {B d q p pd pm k c : Nat} {F : Bxs} {N : Nat} {D V : List ByteArray} {b : Nat} {m : ByteArray}
/-- Lists of a file's card. -/
theorem lists_of (h : Dk w0 w B d q p pd pm k c F N D V) (hc : Crd V b m) {Bc : Nat} {x : Cd} {A : Option Addr} {n kp : Nat} {zs L : List Int} (hf : TwoAt w Bc V b m x A n kp zs L) :
    Calls Tryz.prog 17 #[.pointer (some ⟨d, 0, none⟩), cdv x none 0 0 A n kp] w fun e w' => ∃ v, e = .returned (.tuple #[v, .int .i64 0]) ∧ w'.ownsRow w.heap.size 3 1 v L.length (Lg.ints L) ∧ Below w.heap.size w w' := by
  have h1 := lists_any h hc x none 0 0 A n kp Bc hf.cd hf.hB
  rw [hf.load, hf.two] at h1
  exact h1
/-- Load of a file's card. -/
theorem load_of (h : Dk w0 w B d q p pd pm k c F N D V) (hc : Crd V b m) {Bc : Nat} {x : Cd} {A : Option Addr} {n kp : Nat} {zs L : List Int} (hf : TwoAt w Bc V b m x A n kp zs L) :
    Calls Tryz.prog 16 #[.pointer (some ⟨d, 0, none⟩), cdv x none 0 0 A n kp] w fun e w' => ∃ g, w.heap.size ≤ g ∧ e = .returned (.tuple #[.slice (some ⟨g, 0, none⟩) 120 120, .int .i64 0]) ∧ MRow w' g (whole zs) ∧ Below w.heap.size w w' := by
  have h1 := loadf_any h hc x none 0 0 A n kp Bc hf.cd hf.hB
  rw [hf.load, hf.two] at h1
  unfold RetLoad at h1
  simp only [whole_map hf.b2 hf.pt hf.ln] at h1
  exact h1
end
end Go.Proofs.YtgdlfiejjnjcpaaGreat.Dl
