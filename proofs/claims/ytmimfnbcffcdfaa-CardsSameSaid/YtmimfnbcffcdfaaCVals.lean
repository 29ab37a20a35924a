/-
  WALK: values returns the numbers of a valid card, in the order of its encoding. Conditions: the card is valid.
-/
import Derived.Test.YtmimfnbcffcdfaaCInts
import Derived.Laws.IdiomCopy
import Derived.Laws.CopyOwn
import Derived.Lib.SlBuf
namespace Go.Proofs.Ytmimfnbcffcdfaa
open Go.RowKit

theorem own_below {w w' : World} {base C n sz : Nat} {e : TypeId} {v : Value} {xs : List Value} (h : w.ownsRow base e sz v n xs) (hb : Below C w w') (hC : w.heap.size ≤ C) : w'.ownsRow base e sz v n xs :=
  h.kept (row := none) ⟨hb.os, hb.tape, hb.output, hb.size, fun k hk _ => hb.block k (by omega)⟩ (by cases v.ownBlock <;> simp)

theorem vals1 {fm kd ln sz sg db ov : Int} {ps : List Int} {rs : List Sp} (h : fm = 1) : valuesC ⟨fm, kd, ln, sz, ps, sg, db, rs, ov⟩ = [[fm, kd, ln, sz], ps, [sg, db]].flatten := by
  subst h; simp [valuesC]

theorem ints4 {w : World} (a b c d : Int) (ha : Fit a) (hb : Fit b) (hc : Fit c) (hd : Fit d) : IntsAt (w.alloc (.cells #[.int .i64 a, .int .i64 b, .int .i64 c, .int .i64 d] 3)) (w.heap.size + 1) (some ⟨w.heap.size, 0, none⟩) 4 [a, b, c, d] :=
  ints_new (w := w) [a, b, c, d] (by simp; exact ⟨ha, hb, hc, hd⟩)
theorem ints2 {w : World} (a b : Int) (ha : Fit a) (hb : Fit b) : IntsAt (w.alloc (.cells #[.int .i64 a, .int .i64 b] 3)) (w.heap.size + 1) (some ⟨w.heap.size, 0, none⟩) 2 [a, b] :=
  ints_new (w := w) [a, b] (by simp; exact ⟨ha, hb⟩)

theorem own_base {w : World} {b b' n sz : Nat} {e : TypeId} {v : Value} {xs : List Value} (h : w.ownsRow b e sz v n xs) (hb : b' ≤ b) : w.ownsRow b' e sz v n xs := ⟨h.1, by
  rcases h.2 with h | ⟨g, cap, cur, h1, h2, h3⟩
  · exact Or.inl h
  · exact Or.inr ⟨g, cap, cur, h1, Nat.le_trans hb h2, h3⟩⟩
theorem RetO.to {w w1 : World} {l : List Int} {e : Ending} {w' : World} (h : RetO w1 l e w') (hb : Below w.heap.size w w1) : RetO w l e w' := by
  obtain ⟨v, rfl, ho, b⟩ := h
  exact ⟨v, rfl, own_base ho hb.size, hb.trans (b.mono hb.size)⟩

theorem lsts3 (w : World) (o0 : Obj) (a b c d s t : Int) (ps : List Int) (A : Option Addr) (k B : Nat) (ha : Fit a) (hb : Fit b) (hc : Fit c) (hd : Fit d) (hs : Fit s) (ht : Fit t) (hp : ∀ v, Below w.heap.size w v → IntsAt v B A 4 ps) (hl : ps.length = 4) (hB : B ≤ w.heap.size) :
    LstsAt ((((w.alloc o0).alloc (.cells #[.int .i64 a, .int .i64 b, .int .i64 c, .int .i64 d] 3)).alloc (.cells #[.int .i64 s, .int .i64 t] 3)).alloc
      (.cells #[.slice (some ⟨w.heap.size + 1, 0, none⟩) 4 4, .slice A 4 k, .slice (some ⟨w.heap.size + 1 + 1, 0, none⟩) 2 2] 22)) (w.heap.size + 4) (some ⟨w.heap.size + 1 + 1 + 1, 0, none⟩) 3 [[a, b, c, d], ps, [s, t]] := by
  have h1 := ints4 (w := w.alloc o0) a b c d ha hb hc hd
  have e1 : (w.alloc o0).heap.size = w.heap.size + 1 := by simp
  rw [e1] at h1
  have b1 : Below w.heap.size w ((w.alloc o0).alloc (.cells #[.int .i64 a, .int .i64 b, .int .i64 c, .int .i64 d] 3)) := ((Below.refl _ _).alloc (Nat.le_refl _) _).alloc (by simp) _
  have e2 : ((w.alloc o0).alloc (.cells #[.int .i64 a, .int .i64 b, .int .i64 c, .int .i64 d] 3)).heap.size = w.heap.size + 1 + 1 := by simp
  generalize (w.alloc o0).alloc (.cells #[.int .i64 a, .int .i64 b, .int .i64 c, .int .i64 d] 3) = W1 at *
  have h2 := ints2 (w := W1) s t hs ht
  have b2 : Below W1.heap.size W1 (W1.alloc (.cells #[.int .i64 s, .int .i64 t] 3)) := (Below.refl _ _).alloc (Nat.le_refl _) _
  have e3 : (W1.alloc (.cells #[.int .i64 s, .int .i64 t] 3)).heap.size = w.heap.size + 1 + 1 + 1 := by simp; omega
  rw [e2] at h2
  generalize W1.alloc (.cells #[.int .i64 s, .int .i64 t] 3) = W2 at *
  have b3 : Below W2.heap.size W2 (W2.alloc (.cells #[.slice (some ⟨w.heap.size + 1, 0, none⟩) 4 4, .slice A 4 k, .slice (some ⟨w.heap.size + 1 + 1, 0, none⟩) 2 2] 22)) := (Below.refl _ _).alloc (Nat.le_refl _) _
  have c0 := cell_new W2 #[.slice (some ⟨w.heap.size + 1, 0, none⟩) 4 4, .slice A 4 k, .slice (some ⟨w.heap.size + 1 + 1, 0, none⟩) 2 2] 22 0 rfl
  have c1 := cell_new W2 #[.slice (some ⟨w.heap.size + 1, 0, none⟩) 4 4, .slice A 4 k, .slice (some ⟨w.heap.size + 1 + 1, 0, none⟩) 2 2] 22 1 rfl
  have c2 := cell_new W2 #[.slice (some ⟨w.heap.size + 1, 0, none⟩) 4 4, .slice A 4 k, .slice (some ⟨w.heap.size + 1 + 1, 0, none⟩) 2 2] 22 2 rfl
  rw [e3] at c0 c1 c2
  have b12 : Below W1.heap.size W1 (W2.alloc (.cells #[.slice (some ⟨w.heap.size + 1, 0, none⟩) 4 4, .slice A 4 k, .slice (some ⟨w.heap.size + 1 + 1, 0, none⟩) 2 2] 22)) := b2.trans (b3.mono b2.size)
  generalize W2.alloc (.cells #[.slice (some ⟨w.heap.size + 1, 0, none⟩) 4 4, .slice A 4 k, .slice (some ⟨w.heap.size + 1 + 1, 0, none⟩) 2 2] 22) = W3 at *
  refine ⟨rfl, fun j hj => ?_⟩
  have hj' : j = 0 ∨ j = 1 ∨ j = 2 := by omega
  rcases hj' with rfl | rfl | rfl
  · exact ⟨_, _, _, _, rfl, by omega, c0, (h1.below b12 (by omega)).more (by omega)⟩
  · refine ⟨_, _, A, k, rfl, by omega, ?_, ?_⟩
    · show W3.cell? _ = some (.slice A ps.length k)
      rw [hl]; exact c1
    · show IntsAt W3 _ A ps.length ps
      rw [hl]
      exact (hp W3 (b1.trans (b12.mono b1.size))).more (by omega)
  · exact ⟨_, _, _, _, rfl, by omega, c2, (h2.below b3 (by omega)).more (by omega)⟩

set_option maxHeartbeats 2000000 in
theorem values1_any (fm kd ln sz sg db ov : Int) (ps : List Int) (rs : List Sp) (A : Option Addr) (k : Nat) (A' : Option Addr) (n' k' B : Nat) (w : World) (hf : fm = 1) (hF : Cd.fit ⟨fm, kd, ln, sz, ps, sg, db, rs, ov⟩)
    (i1 : IntsAt w B A 4 ps) (hB : B ≤ w.heap.size) :
    Calls Try.prog 24 #[cdv ⟨fm, kd, ln, sz, ps, sg, db, rs, ov⟩ A 4 k A' n' k'] w (RetO w (valuesC ⟨fm, kd, ln, sz, ps, sg, db, rs, ov⟩)) := by
  obtain ⟨f0, f1, f2, f3, f4, f5, f6⟩ := hF
  simp only at f0 f1 f2 f3 f4 f5 f6
  have hl := i1.len
  rw [vals1 hf]
  have hfl : [[fm, kd, ln, sz], ps, [sg, db]].flatten.length ≤ 100000 := by simp; omega
  have HC := Lib.hid (fun A n c B v hA hB => concatI_any A n c B [[fm, kd, ln, sz], ps, [sg, db]] v hA hB (by have := hA.1; simp at this; omega) hfl)
  generalize [[fm, kd, ln, sz], ps, [sg, db]].flatten = out at *
  have HW : Hid (∀ v, Below w.heap.size w v → IntsAt v B A 4 ps) := fun v hv => i1.below hv hB
  have HP : Hid (ps.length = 4) := hl
  clear hl i1 hfl
  subst hf
  go_enter Try.func24, Try.ntmps24
  have HL := Lib.hid (fun o0 => lsts3 w o0 1 kd ln sz sg db ps A k B f0 f1 f2 f3 f4 f5 HW.out HP.out hB)
  clear HW HP f0 f1 f2 f3 f4 f5 f6
  go_wp2_with fail
  refine (HC.out _ 3 3 _ _ (HL.out _) (by simp)).mono ?_
  intro e w' hr
  obtain ⟨v, rfl, ho, hb⟩ := hr.to (w := w) ((((Below.refl _ _).alloc (Nat.le_refl _) _).alloc (by simp) _).alloc (by simp; omega) _ |>.alloc (by simp; omega) _)
  have HO := Lib.hid ho
  have HB := Lib.hid hb
  clear ho hb hr
  go_wp2
  go_ret
  exact ⟨_, rfl, HO.out, HB.out⟩
end Go.Proofs.Ytmimfnbcffcdfaa
