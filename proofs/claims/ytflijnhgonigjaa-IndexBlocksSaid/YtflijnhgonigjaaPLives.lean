/-
  WALK: the statements' own lives: ten names. No condition.
-/
import Derived.Test.YtflijnhgonigjaaPAdd
set_option linter.unusedVariables false
namespace Go.Proofs.Ytflijnhgonigjaa
open Go.RowKit

def lvN : Nat → ByteArray
  | 0 => ⟨#[106]⟩ | 1 => ⟨#[98]⟩ | 2 => ⟨#[99]⟩ | 3 => ⟨#[97]⟩ | 4 => ⟨#[101]⟩ | 5 => ⟨#[102]⟩ | 6 => ⟨#[103]⟩ | 7 => ⟨#[104]⟩ | 8 => ⟨#[105]⟩ | _ => ⟨#[100]⟩
def lvP : Nat → Pg
  | 0 => []
  | k + 1 => (addP (lvP k) (lvN k) ((k : Int) + 1)).1
theorem lv_ok : ∀ k, k < 10 → (addP (lvP k) (lvN k) ((k : Int) + 1)).2 = 0 := by decide +kernel
theorem lv_len : ∀ k, k < 11 → (lvP k).length ≤ 10 ∧ (lvP k).flatten.length ≤ 10 := by decide +kernel
def lvEnd : Pg := [[⟨⟨#[97]⟩, 4⟩, ⟨⟨#[98]⟩, 2⟩, ⟨⟨#[99]⟩, 3⟩, ⟨⟨#[100]⟩, 10⟩, ⟨⟨#[101]⟩, 5⟩], [⟨⟨#[102]⟩, 6⟩, ⟨⟨#[103]⟩, 7⟩, ⟨⟨#[104]⟩, 8⟩, ⟨⟨#[105]⟩, 9⟩, ⟨⟨#[106]⟩, 1⟩]]
theorem lv_end : lvP 10 = lvEnd := by decide +kernel
theorem lv_right : rightP lvEnd = true := by decide +kernel
theorem lv_find : findP lvEnd ⟨#[100]⟩ = (10, true) := by decide +kernel
theorem lv_pages : ∀ l ∈ lvEnd, l.length ≤ 100000 := fun l hl => by
  have : lvEnd.all (fun l => decide (l.length ≤ 100000)) = true := by decide
  exact of_decide_eq_true (List.all_eq_true.1 this l hl)
theorem lvN_cells (k : Nat) (hk : k < 10) : (#[Value.string ⟨#[106]⟩, Value.string ⟨#[98]⟩, Value.string ⟨#[99]⟩, Value.string ⟨#[97]⟩, Value.string ⟨#[101]⟩, Value.string ⟨#[102]⟩, Value.string ⟨#[103]⟩, Value.string ⟨#[104]⟩, Value.string ⟨#[105]⟩, Value.string ⟨#[100]⟩] : Array Value)[k]? = some (.string (lvN k)) := by
  match k, hk with
  | 0, _ => rfl | 1, _ => rfl | 2, _ => rfl | 3, _ => rfl | 4, _ => rfl | 5, _ => rfl | 6, _ => rfl | 7, _ => rfl | 8, _ => rfl | 9, _ => rfl

set_option maxHeartbeats 4000000 in
set_option maxRecDepth 100000 in
theorem lives_any (w : World) : Calls Try.prog 8 #[] w fun e w' => e = .returned (.bool true) ∧ Below w.heap.size w w' := by
  obtain ⟨W0, hW0⟩ : ∃ W0, W0 = w.alloc (.cells #[Value.string ⟨#[106]⟩, Value.string ⟨#[98]⟩, Value.string ⟨#[99]⟩, Value.string ⟨#[97]⟩, Value.string ⟨#[101]⟩, Value.string ⟨#[102]⟩, Value.string ⟨#[103]⟩, Value.string ⟨#[104]⟩, Value.string ⟨#[105]⟩, Value.string ⟨#[100]⟩] 9) := ⟨_, rfl⟩
  have HC0 : Hid (∀ k, k < 10 → W0.cell? ⟨w.heap.size, k, none⟩ = some (.string (lvN k))) := fun k hk => by rw [hW0]; exact cell_new w _ 9 k (lvN_cells k hk)
  have HB0 : Hid (Below w.heap.size w W0) := by show Below _ _ _; rw [hW0]; exact (Below.refl _ _).alloc (Nat.le_refl _) _
  have HZ0 : Hid (w.heap.size < W0.heap.size) := by show _ < _; rw [hW0]; simp
  have HADD := Lib.hid (fun k (hk : k < 10) A c W (h : PgsAt W W.heap.size A (lvP k).length (lvP k)) => add_any A _ c W.heap.size (lvP k) (lvN k) ((k : Int) + 1) W h (Nat.le_refl _) (by have := lv_len k (by omega); omega) (by have := lv_len k (by omega); omega))
  have HNX : Hid (∀ k, k < 10 → addP (lvP k) (lvN k) ((k : Int) + 1) = (lvP (k + 1), 0)) := fun k hk => by
    have := lv_ok k hk
    show _ = ((addP (lvP k) (lvN k) ((k : Int) + 1)).1, (0 : Int))
    rw [← this]
  have HEND := Lib.hid lv_end
  go_enter Try.func8, Try.ntmps8
  go_wp2
  rw [← hW0]
  clear hW0
  go_loopw [1, 3] (fun v i wr => ∃ k : Nat, k ≤ 10 ∧ i = .int .i64 (k : Int) ∧ ∃ A c m, v = .slice A m c ∧ m = (lvP k).length ∧ PgsAt wr wr.heap.size A m (lvP k) ∧ Below W0.heap.size W0 wr) (fun _ i _ => 10 - (intOf i).toNat)
  case atStart => exact ⟨0, by omega, rfl, none, 0, 0, rfl, rfl, PgsAt.nil _ _ _, Below.refl _ _⟩
  case round =>
    obtain ⟨k, hk, rfl, A, c, m, rfl, hm, hP, hb⟩ := hrel
    by_cases hlt : k < 10
    · have hc1 := bcell hb (HC0.out k hlt) HZ0.out
      have HA := Lib.hid (HADD.out k hlt A c wr (by rw [← hm]; exact hP))
      rw [HNX.out k hlt, ← hm] at HA
      have HB := Lib.hid hb
      have x1 : (k : Int) < 10 := by omega
      clear hP hb hm
      generalize lvN k = s at *
      go_wp2_with fail
      refine HA.out.mono ?_
      intro e w2 hr
      obtain ⟨A2, c2, rfl, h1, h2, h3⟩ := hr
      have H2 := Lib.hid h2
      have HB2 := Lib.hid (HB.out.trans (h3.mono HB.out.size))
      clear h2 h3 HA hc1
      simp only at H2 ⊢
      generalize hmm : (lvP (k + 1)).length = m2 at *
      have HM2 := Lib.hid hmm.symm
      clear hmm
      go_wp2
      go_roundw
      case rel => exact ⟨k + 1, by omega, by go_num, A2, c2, m2, rfl, HM2.out, H2.out, HB2.out⟩
      case measure => simp [intOf]; omega
    · obtain rfl : k = 10 := by omega
      rw [HEND.out] at hm hP
      obtain rfl : m = 2 := hm
      have HF := Lib.hid (find_any A 2 c wr.heap.size lvEnd ⟨#[100]⟩ wr hP (Nat.le_refl _) (by omega) lv_pages)
      have HR := Lib.hid (fun W (hW : Below wr.heap.size wr W) => iright_any A 2 c wr.heap.size lvEnd W (hP.below hW (Nat.le_refl _)) hW.size (by omega) lv_pages)
      rw [lv_find] at HF
      rw [lv_right] at HR
      obtain ⟨b, o, A1, c1, rfl, hbB, k1, -, -⟩ := hP.at_ (k := 0) (by omega)
      obtain ⟨b', o', A2, c2, e', -, k2, -, -⟩ := hP.at_ (k := 1) (by omega)
      obtain ⟨rfl, rfl⟩ : b' = b ∧ o' = o := by injection e' with e'; injection e' with e1 e2; exact ⟨e1.symm, e2.symm⟩
      have K1 : Hid (wr.cell? ⟨b', o', none⟩ = some (.slice A1 5 c1)) := k1
      have K2 : Hid (wr.cell? ⟨b', o' + 1, none⟩ = some (.slice A2 5 c2)) := k2
      have HB := Lib.hid hb
      clear k1 k2 hP hb e'
      rw [show ((10 : Nat) : Int) = 10 from rfl]
      go_wp2_with fail
      refine HF.out.mono ?_
      rintro e w3 ⟨rfl, b3⟩
      have g1 := bcell b3 K1.out hbB
      have g2 := bcell b3 K2.out hbB
      have B3 := Lib.hid b3
      simp only
      clear b3
      go_wp2_with fail
      refine (HR.out w3 B3.out).mono ?_
      rintro e w4 ⟨rfl, b4⟩
      go_wp2
      go_ret
      exact ⟨rfl, HB0.out.trans ((HB.out.trans ((B3.out.trans (b4.mono B3.out.size)).mono HB.out.size)).mono HB0.out.size)⟩
end Go.Proofs.Ytflijnhgonigjaa
