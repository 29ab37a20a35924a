/-
  WALKS: Of, the reference's Of. Conditions: at most 40000 entries.
-/
import Derived.Test.YtflijnhgonigjaaPCollect
import Derived.Test.YtflijnhgonigjaaPConcat
namespace Go.Proofs.Ytflijnhgonigjaa
open Go.RowKit

def cutAt (l : List En) (k : Nat) : List En := (l.drop (9 * k)).take 9
def qOf (n : Nat) : Nat := (n + 8) / 9
def chunksL (l : List En) : Pg := (List.range (qOf l.length)).map (cutAt l)
theorem qOf_lt (n k : Nat) : k < qOf n ↔ 9 * k < n := by unfold qOf; omega
theorem cutAt_len (l : List En) (k : Nat) : (cutAt l k).length = lenC l.length k := by
  unfold cutAt lenC; rw [List.length_take, List.length_drop]
theorem chunksL_len (l : List En) : (chunksL l).length = qOf l.length := by unfold chunksL; simp
theorem chunksL_at {l : List En} {k : Nat} (h : k < qOf l.length) : (chunksL l).getD k [] = cutAt l k := by
  unfold chunksL; simp [List.getD, h]
theorem chunksL_mem (l : List En) : ∀ x ∈ chunksL l, x.length ≤ 9 := by
  intro x hx
  obtain ⟨k, -, rfl⟩ := List.mem_map.1 hx
  rw [cutAt_len]; unfold lenC; omega
theorem chunksL_sub (l : List En) : ∀ x ∈ chunksL l, ∀ e ∈ x, e ∈ l := by
  intro x hx e he
  obtain ⟨k, -, rfl⟩ := List.mem_map.1 hx
  exact List.mem_of_mem_drop (List.mem_of_mem_take he)
theorem cut_ens {w : World} {B b o n : Nat} {l : List En} (h : EnsAt w B (some ⟨b, o, none⟩) n l) (k : Nat) (hk : 9 * k < n) : EnsAt w B (some ⟨b, o + 9 * k * 2, none⟩) (lenC n k) (cutAt l k) := by
  have h1 := (h.drop (9 * k)).take (lenC n k) (by unfold lenC; omega)
  have e : (l.drop (9 * k)).take (lenC n k) = cutAt l k := by
    unfold cutAt lenC
    rw [← h.len]
    rcases Nat.le_total 9 (l.length - 9 * k) with h2 | h2
    · rw [Nat.min_eq_left h2]
    · rw [Nat.min_eq_right h2, List.take_of_length_le (by rw [List.length_drop]; exact Nat.le_refl _), List.take_of_length_le (by rw [List.length_drop]; exact h2)]
  rwa [e] at h1
/-- the row of the chunks reads as pages. -/
theorem vals_pgs {w0 w : World} {base B b o n : Nat} {l : List En} {v : Value} (hE : EnsAt w0 B (some ⟨b, o, none⟩) n l) (hB : B ≤ w0.heap.size) (hb : Below w0.heap.size w0 w) (ho : w.ownsRow base 27 1 v (qOf n) ((List.finRange (qOf n)).map (chunkVal b o n))) :
    ∃ A c, v = .slice A (qOf n) c ∧ PgsAt w w.heap.size A (qOf n) (chunksL l) := by
  obtain ⟨A, c, rfl, hc⟩ := own_slice ho
  refine ⟨A, c, rfl, by rw [chunksL_len, hE.len], fun k hk => ?_⟩
  obtain ⟨g, cap, e, _, hlt⟩ := ho.form (by omega)
  injection e with e1 e2
  subst e1
  have hx : ((List.finRange (qOf n)).map (chunkVal b o n))[k]? = some (chunkVal b o n ⟨k, hk⟩) := by simp [hk]
  have hcell := (ho.cells (g := g) rfl) k _ hx
  rw [Go.WideShapes.add_plain] at hcell
  have hl := hE.len
  rw [chunksL_at (by rw [hl]; exact hk), cutAt_len, hl]
  exact ⟨g, 0, _, _, rfl, hlt, hcell, Nat.le_refl _, ((cut_ens hE k ((qOf_lt n k).1 hk)).below hb hB).more (Nat.le_trans hB hb.size)⟩

set_option maxHeartbeats 2000000 in
theorem collect_any (B1 B2 b o n c : Nat) (hc : n ≤ c) (hm : n ≤ 40000) (w : World) (hB1 : Boxed w B1 27 (.slice (some ⟨b, o, none⟩) n c)) (hB2 : Boxed w B2 3 (.int .i64 9)) :
    Calls Try.prog 40 #[.func (.func 68) #[] #[.pointer (some ⟨B1, 0, none⟩), .pointer (some ⟨B2, 0, none⟩)]] w (RetVals w ((List.finRange (qOf n)).map (chunkVal b o n))) := by
  have H := Lib.hid (appendSeq_any B1 B2 b o (qOf n) n c hc hm (qOf_lt n) w hB1 hB2)
  generalize (List.finRange (qOf n)).map (chunkVal b o n) = xs at *
  go_enter Try.func40, Try.ntmps40
  go_wp2_with fail
  refine H.out.mono ?_
  rintro e w1 ⟨v, rfl, h1, h2⟩
  obtain ⟨A1, c1, rfl, -⟩ := own_slice h1
  have H1 := Lib.hid h1
  clear h1
  go_wp2
  go_ret
  exact ⟨_, rfl, H1.out, h2⟩
set_option maxHeartbeats 2000000 in
theorem collect_zero (B1 B2 : Nat) (A : Option Addr) (c : Nat) (w : World) (hB1 : Boxed w B1 27 (.slice A 0 c)) (hB2 : Boxed w B2 3 (.int .i64 9)) (xs : List Value) (hxs : xs = []) :
    Calls Try.prog 40 #[.func (.func 68) #[] #[.pointer (some ⟨B1, 0, none⟩), .pointer (some ⟨B2, 0, none⟩)]] w (RetVals w xs) := by
  have H : Hid (Calls Try.prog 67 #[.slice none 0 0, .func (.func 68) #[] #[.pointer (some ⟨B1, 0, none⟩), .pointer (some ⟨B2, 0, none⟩)]] w (RetVals w xs)) := by rw [hxs]; exact appendSeq_zero B1 B2 A c w hB1 hB2
  clear hxs
  go_enter Try.func40, Try.ntmps40
  go_wp2_with fail
  refine H.out.mono ?_
  rintro e w1 ⟨v, rfl, h1, h2⟩
  obtain ⟨A1, c1, rfl, -⟩ := own_slice h1
  have H1 := Lib.hid h1
  clear h1
  go_wp2
  go_ret
  exact ⟨_, rfl, H1.out, h2⟩

theorem RetCloneP.pgs {w : World} {p : Pg} {e : Ending} {w' : World} (h : RetCloneP w p e w') (hf : ∀ l ∈ p, ∀ e ∈ l, e.fit) : RetPgs w p e w' := by
  obtain ⟨vs, rfl, ho, ht, hb⟩ := h
  exact ⟨_, _, rfl, Nat.le_refl _, ht.pgs ho hf, hb⟩
theorem RetPgs.base {w w1 : World} {p : Pg} {e : Ending} {w' : World} (h : RetPgs w1 p e w') (hb : Below w.heap.size w w1) : RetPgs w p e w' := by
  obtain ⟨A, c, rfl, h1, h2, h3⟩ := h
  exact ⟨A, c, rfl, h1, h2, hb.trans (h3.mono hb.size)⟩

set_option maxHeartbeats 4000000 in
theorem iof_any (A : Option Addr) (n c B : Nat) (l : List En) (w : World) (hA : EnsAt w B A n l) (hB : B ≤ w.heap.size) (hn : n ≤ 40000) (hnc : n ≤ c) :
    Calls Try.prog 18 #[.slice A n c] w (RetPgs w (chunksL l)) := by
  have hl := hA.len
  obtain ⟨W0, hW0⟩ : ∃ W0, ((w.alloc (.cells #[.slice A n c] 27)).alloc (.cells #[.int .i64 9] 3)) = W0 := ⟨_, rfl⟩
  have e1 : (w.alloc (.cells #[.slice A n c] 27)).heap.size = w.heap.size + 1 := by simp
  have hb1 : Boxed W0 w.heap.size 27 (.slice A n c) := by rw [← hW0]; exact (Boxed.new w 27 _).alloc _
  have hb2 : Boxed W0 (w.heap.size + 1) 3 (.int .i64 9) := by
    rw [← hW0]
    have := Boxed.new (w.alloc (.cells #[.slice A n c] 27)) 3 (.int .i64 9)
    rwa [e1] at this
  have hB0 : Below w.heap.size w W0 := by
    rw [← hW0]
    exact ((Below.refl _ _).alloc (Nat.le_refl _) _).alloc (by rw [e1]; omega) _
  have hC : Calls Try.prog 40 #[.func (.func 68) #[] #[.pointer (some ⟨w.heap.size, 0, none⟩), .pointer (some ⟨w.heap.size + 1, 0, none⟩)]] W0 fun e w' => ∃ A1 c1, e = .returned (.slice A1 (qOf n) c1) ∧ PgsAt w' w'.heap.size A1 (qOf n) (chunksL l) ∧ Below w.heap.size w w' := by
    rcases Nat.eq_zero_or_pos n with rfl | hp
    · have hl0 : l = [] := List.eq_nil_of_length_eq_zero hl
      subst hl0
      refine (collect_zero w.heap.size (w.heap.size + 1) A c W0 hb1 hb2 [] rfl).mono ?_
      rintro e w1 ⟨v, rfl, h1, h2⟩
      obtain ⟨A1, c1, rfl, -⟩ := own_slice h1
      exact ⟨A1, c1, rfl, PgsAt.nil _ _ _, hB0.trans (h2.mono hB0.size)⟩
    · obtain ⟨b, o, rfl, -⟩ := hA.at_ hp
      refine (collect_any w.heap.size (w.heap.size + 1) b o n c hnc hn W0 hb1 hb2).mono ?_
      rintro e w1 ⟨v, rfl, h1, h2⟩
      have hbw := hB0.trans (h2.mono hB0.size)
      rw [List.length_map, List.length_finRange] at h1
      obtain ⟨A1, c1, rfl, hP⟩ := vals_pgs hA hB hbw h1
      exact ⟨A1, c1, rfl, hP, hbw⟩
  have HC := Lib.hid hC
  have HFT : Hid (∀ x ∈ chunksL l, ∀ e ∈ x, e.fit) := fun x hx e he => hA.2.1 e (chunksL_sub l x hx e he)
  have HKL := Lib.hid (fun W A1 c1 (h : PgsAt W W.heap.size A1 (qOf n) (chunksL l)) => cloneP_any A1 (qOf n) c1 W.heap.size (chunksL l) W h (Nat.le_refl _) (by unfold qOf; omega) (fun x hx => by have := chunksL_mem l x hx; omega))
  clear hC hA hb1 hb2 hB0 e1
  generalize chunksL l = p at *
  generalize qOf n = q at *
  go_enter Try.func18, Try.ntmps18
  go_wp2_with fail
  refine (chunk_any A n c w).mono ?_
  rintro e w1 ⟨rfl, rfl⟩
  rw [hW0]
  clear hW0
  go_wp2_with fail
  refine HC.out.mono ?_
  rintro e w2 ⟨A2, c2, rfl, hP, b2⟩
  have HB := Lib.hid b2
  have HK := Lib.hid (HKL.out w2 A2 c2 hP)
  clear hP b2
  go_wp2_with fail
  refine HK.out.mono ?_
  intro e w3 hr
  have hr2 := (hr.pgs HFT.out).base HB.out
  obtain ⟨A3, c3, rfl, h1, h2, h3⟩ := hr2
  have H2 := Lib.hid h2
  clear h2 hr
  go_wp2
  go_ret
  exact ⟨_, _, rfl, h1, H2.out, h3⟩
end Go.Proofs.Ytflijnhgonigjaa
