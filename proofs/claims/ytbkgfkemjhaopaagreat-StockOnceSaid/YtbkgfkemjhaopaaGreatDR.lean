/-
  THE REFERENCE's DEAL IN MEMORY: a struct of two rows of texts; WALKS of Begin, there, Read, Write, SetCrown, Undo. Condition: texts that fit.
-/
import Derived.Test.YtbkgfkemjhaopaaGreatDG
set_option linter.unusedVariables false
set_option linter.unusedSimpArgs false
set_option maxRecDepth 100000
set_option maxHeartbeats 4000000
namespace Go.Proofs.YtbkgfkemjhaopaaGreat.Dl
open Go.RowKit
open Sl (Turns SlabAt)
open Lg (Ch chCells chsCells FS LogAt Whole setL setL_len ownB bcell SsAt strs strs_len strs_get ownS_set copyS_law)
open Kr (crv rightK blockK okK kf kb kc writeK KBox cells3 put3 put3_box put3_below row_set)

theorem own_tag {w : World} {base n sz : Nat} {e : TypeId} {v : Value} {xs : List Value} (h : w.ownsRow base e sz v n xs) {b : Nat} (hb : v.ownBlock = some b) : ∃ cs, w.heap[b]? = some (.cells cs e (0, 0)) := by
  rcases h.2 with ⟨rfl, _⟩ | ⟨g, cap, cur, rfl, _, hg, _⟩
  · cases hb
  · cases hb; exact ⟨cur, hg⟩
theorem own_turns {w w' : World} {base n sz : Nat} {e : TypeId} {v : Value} {xs : List Value} {L : List Nat} (h : w.ownsRow base e sz v n xs) (ht : Turns L w w') (hL : ∀ j, j ∈ L → v.ownBlock ≠ some j) : w'.ownsRow base e sz v n xs := by
  refine ⟨h.1, ?_⟩
  rcases h.2 with h0 | ⟨g, cap, cur, rfl, hb, hg, r⟩
  · exact .inl h0
  · refine .inr ⟨g, cap, cur, rfl, hb, ?_, r⟩
    exact (ht.block g (Array.getElem?_eq_some_iff.1 hg).1 (fun hm => hL g hm rfl)).trans hg
theorem tag_ne {w : World} {a b : Nat} {cs cs' : Array Value} {e e' : TypeId} (h : w.heap[a]? = some (.cells cs e (0, 0))) (h' : w.heap[b]? = some (.cells cs' e' (0, 0))) (he : e ≠ e') : a ≠ b := fun hab => by
  subst hab
  rw [h] at h'
  cases h'
  exact he rfl

/-- the reference's deal in block r: the rows base and now, each in a block of its own. -/
structure RD (w : World) (R r gb cb gn cn N : Nat) (base now : List ByteArray) : Prop where
  hR : R ≤ r
  hr : w.heap[r]? = some (.cells #[.slice (some ⟨gb, 0, none⟩) N cb, .slice (some ⟨gn, 0, none⟩) N cn] 71 (0, 0))
  hb : w.ownsRow R 9 1 (.slice (some ⟨gb, 0, none⟩) N cb) N (strs base)
  hn : w.ownsRow R 9 1 (.slice (some ⟨gn, 0, none⟩) N cn) N (strs now)
  lb : base.length = N
  ln : now.length = N
  ne : gb ≠ gn
section
variable {w w' : World} {R r gb cb gn cn N : Nat} {base now : List ByteArray}
theorem RD.lt (h : RD w R r gb cb gn cn N base now) : r < w.heap.size := (Array.getElem?_eq_some_iff.1 h.hr).1
theorem RD.c0 (h : RD w R r gb cb gn cn N base now) : w.cell? ⟨r, 0, none⟩ = some (.slice (some ⟨gb, 0, none⟩) N cb) := by rw [cell_of_row w r 0 _ 71 _ h.hr]; rfl
theorem RD.c1 (h : RD w R r gb cb gn cn N base now) : w.cell? ⟨r, 1, none⟩ = some (.slice (some ⟨gn, 0, none⟩) N cn) := by rw [cell_of_row w r 1 _ 71 _ h.hr]; rfl
theorem RD.fz (h : RD w R r gb cb gn cn N base now) (k : Nat) : w.frozen? ⟨r, k, none⟩ = false := by unfold World.frozen?; rw [h.hr]; simp
theorem RD.gb_ge (h : RD w R r gb cb gn cn N base now) : R ≤ gb ∧ gb < w.heap.size := h.hb.lt gb rfl
theorem RD.gn_ge (h : RD w R r gb cb gn cn N base now) : R ≤ gn ∧ gn < w.heap.size := h.hn.lt gn rfl
theorem RD.rgb (h : RD w R r gb cb gn cn N base now) : r ≠ gb := by
  obtain ⟨cs, h1⟩ := own_tag h.hb (b := gb) rfl
  exact tag_ne h.hr h1 (by decide)
theorem RD.rgn (h : RD w R r gb cb gn cn N base now) : r ≠ gn := by
  obtain ⟨cs, h1⟩ := own_tag h.hn (b := gn) rfl
  exact tag_ne h.hr h1 (by decide)
theorem RD.turns {L : List Nat} (h : RD w R r gb cb gn cn N base now) (ht : Turns L w w') (h1 : r ∉ L) (h2 : gb ∉ L) (h3 : gn ∉ L) : RD w' R r gb cb gn cn N base now :=
  ⟨h.hR, (ht.block r h.lt h1).trans h.hr, own_turns h.hb ht (fun j hj e => h2 (by cases e; exact hj)), own_turns h.hn ht (fun j hj e => h3 (by cases e; exact hj)), h.lb, h.ln, h.ne⟩
theorem RD.below (h : RD w R r gb cb gn cn N base now) (hb : Below w.heap.size w w') : RD w' R r gb cb gn cn N base now := h.turns (Turns.of_below [] hb) (by simp) (by simp) (by simp)
theorem RD.cell (h : RD w R r gb cb gn cn N base now) {k : Nat} (hk : k < N) : w.cell? ⟨gn, k, none⟩ = some (.string (now.getD k ⟨#[]⟩)) := by
  have h1 := h.hn.cellAt k (by omega)
  rw [strs_get _ _ (by rw [h.ln]; exact hk)] at h1
  exact h1
theorem RD.cellB (h : RD w R r gb cb gn cn N base now) {k : Nat} (hk : k < N) : w.cell? ⟨gb, k, none⟩ = some (.string (base.getD k ⟨#[]⟩)) := by
  have h1 := h.hb.cellAt k (by omega)
  rw [strs_get _ _ (by rw [h.lb]; exact hk)] at h1
  exact h1
theorem RD.fzn (h : RD w R r gb cb gn cn N base now) (k : Nat) : w.frozen? ⟨gn, k, none⟩ = false := h.hn.frozenAt k
theorem RD.ss (h : RD w R r gb cb gn cn N base now) : SsAt w w.heap.size (some ⟨gn, 0, none⟩) N now := by
  have h1 := h.hn
  rw [← h.ln] at h1
  have h2 := Lg.own_ss h1
  rwa [h.ln] at h2
theorem RD.ssB (h : RD w R r gb cb gn cn N base now) : SsAt w w.heap.size (some ⟨gb, 0, none⟩) N base := by
  have h1 := h.hb
  rw [← h.lb] at h1
  have h2 := Lg.own_ss h1
  rwa [h.lb] at h2
theorem RD.put (h : RD w R r gb cb gn cn N base now) (k : Nat) (s : ByteArray) : RD (w.setCell ⟨gn, k, none⟩ (.string s)) R r gb cb gn cn N base (now.set k s) := by
  have ht : Turns [gn] w (w.setCell ⟨gn, k, none⟩ (.string s)) := Turns.setCell _ (by simp) _
  refine ⟨h.hR, (ht.block r h.lt (by simp; exact h.rgn)).trans h.hr, own_turns h.hb ht (fun j hj e => h.ne (by cases e; simpa using hj)), ?_, h.lb, by rw [List.length_set, h.ln], h.ne⟩
  have h1 := h.hn
  rw [← h.ln] at h1
  have h2 := ownS_set h1 k s
  rw [h.ln] at h2
  exact h2
theorem RD.setN (h : RD w R r gb cb gn cn N base now) {g c : Nat} {l : List ByteArray} (hn : w.ownsRow R 9 1 (.slice (some ⟨g, 0, none⟩) N c) N (strs l)) (hl : l.length = N) (hg : gb ≠ g) :
    RD (w.setCell ⟨r, 1, none⟩ (.slice (some ⟨g, 0, none⟩) N c)) R r gb cb g c N base l := by
  have ht : Turns [r] w (w.setCell ⟨r, 1, none⟩ (.slice (some ⟨g, 0, none⟩) N c)) := Turns.setCell _ (by simp) _
  obtain ⟨cs, h1⟩ := own_tag hn (b := g) rfl
  have hrg := tag_ne h.hr h1 (by decide)
  exact ⟨h.hR, row_set h.hr rfl, own_turns h.hb ht (fun j hj e => h.rgb (by cases e; exact (List.mem_singleton.1 hj).symm)), own_turns hn ht (fun j hj e => hrg (by cases e; exact (List.mem_singleton.1 hj).symm)), h.lb, hl, hg⟩
theorem RD.setB (h : RD w R r gb cb gn cn N base now) {g c : Nat} {l : List ByteArray} (hb : w.ownsRow R 9 1 (.slice (some ⟨g, 0, none⟩) N c) N (strs l)) (hl : l.length = N) (hg : g ≠ gn) :
    RD (w.setCell ⟨r, 0, none⟩ (.slice (some ⟨g, 0, none⟩) N c)) R r g c gn cn N l now := by
  have ht : Turns [r] w (w.setCell ⟨r, 0, none⟩ (.slice (some ⟨g, 0, none⟩) N c)) := Turns.setCell _ (by simp) _
  obtain ⟨cs, h1⟩ := own_tag hb (b := g) rfl
  have hrg := tag_ne h.hr h1 (by decide)
  exact ⟨h.hR, row_set h.hr rfl, own_turns hb ht (fun j hj e => hrg (by cases e; exact (List.mem_singleton.1 hj).symm)), own_turns h.hn ht (fun j hj e => h.rgn (by cases e; exact (List.mem_singleton.1 hj).symm)), hl, h.ln, hg⟩
end

/-! ### Begin -/
theorem rbegin_any (A : Option Addr) (N c B : Nat) (ss : List ByteArray) (w : World) (hA : SsAt w B A N ss) (hB : B ≤ w.heap.size) (hN : 0 < N) (hN2 : N ≤ 1000) :
    Calls Tryz.prog 24 #[.slice A N c] w fun e w' => ∃ r gb cb gn cn, e = .returned (.pointer (some ⟨r, 0, none⟩)) ∧ RD w' w.heap.size r gb cb gn cn N ss ss ∧ Below w.heap.size w w' := by
  have HL := Lib.hid hA.len
  have HA := Lib.hid hA
  clear hA
  go_enter Tryz.func24, Tryz.ntmps24
  go_wp2_with (at_builtin; refine copyS_law rfl (.const (.slice none 0 0)) (.tmp 3) rfl w rfl B A N c ss rfl HA.out (by omega) ?_)
  intro v1 w1 o1 b1
  have HB1 := Lib.hid b1
  have HO1 := Lib.hid o1
  have HA1 := Lib.hid (HA.out.below b1 hB)
  clear b1 o1
  go_wp2_with (at_builtin; refine copyS_law rfl (.const (.slice none 0 0)) (.tmp 5) rfl w1 rfl B A N c ss rfl HA1.out (by omega) ?_)
  intro v2 w2 o2 b2
  obtain ⟨g1, c1, rfl, hg1, hl1⟩ := HO1.out.form (by rw [HL.out]; exact hN)
  obtain ⟨g2, c2, rfl, hg2, hl2⟩ := o2.form (by rw [HL.out]; exact hN)
  rw [HL.out]
  have HO3 : Hid (∀ o, (w2.alloc o).ownsRow w.heap.size 9 1 (.slice (some ⟨g1, 0, none⟩) N c1) N (strs ss)) := fun o => by
    have h := (Lg.own_below HO1.out b2 (Nat.le_refl _)).alloc o
    rwa [HL.out] at h
  have HO4 : Hid (∀ o, (w2.alloc o).ownsRow w.heap.size 9 1 (.slice (some ⟨g2, 0, none⟩) N c2) N (strs ss)) := fun o => by
    have h := (own_le o2 (Nat.le_trans (Nat.le_refl _) HB1.out.size)).alloc o
    rwa [HL.out] at h
  have HB2 := Lib.hid (HB1.out.trans (b2.mono HB1.out.size))
  have HS : Hid (w.heap.size ≤ w2.heap.size) := HB2.out.size
  have HNE : Hid (g1 ≠ g2) := by show _ ≠ _; omega
  have HAL : Hid (∀ o, Below w.heap.size w (w2.alloc o)) := fun o => HB2.out.alloc HB2.out.size o
  clear o2 b2
  go_wp2
  go_ret
  exact ⟨w2.heap.size, g1, c1, g2, c2, rfl, ⟨HS.out, heap_alloc_new w2 _, HO3.out _, HO4.out _, HL.out, HL.out, HNE.out⟩, HAL.out _⟩

/-! ### there, Read -/
theorem there_any (R r gb cb gn cn N : Nat) (base now : List ByteArray) (i : Int) (w : World) (h : RD w R r gb cb gn cn N base now) :
    Calls Tryz.prog 58 #[.pointer (some ⟨r, 0, none⟩), .int .i64 i] w fun e w' => e = .returned (.bool (hasB N i)) ∧ w = w' := by
  have c1 := h.c1
  clear h
  by_cases h0 : 0 ≤ i
  · by_cases h1 : i < (N : Int)
    · by_cases h2 : i < 1
      · rw [hasB_t.2 (by omega)]
        go_enter Tryz.func58, Tryz.ntmps58
        go_wp2
        go_ret; exact ⟨rfl, rfl⟩
      · by_cases h3 : 41 < i
        · rw [hasB_t.2 (by omega)]
          go_enter Tryz.func58, Tryz.ntmps58
          go_wp2
          go_ret; exact ⟨rfl, rfl⟩
        · rw [hasB_f (by omega)]
          go_enter Tryz.func58, Tryz.ntmps58
          go_wp2
          go_ret; exact ⟨rfl, rfl⟩
    · rw [hasB_f (by omega)]
      go_enter Tryz.func58, Tryz.ntmps58
      go_wp2
      go_ret; exact ⟨rfl, rfl⟩
  · rw [hasB_f (by omega)]
    go_enter Tryz.func58, Tryz.ntmps58
    go_wp2
    go_ret; exact ⟨rfl, rfl⟩
/-! ### Write -/
theorem whole_is {s : ByteArray} (h : s.size ≤ 128) : Sl.wholeS s = Sl.padS s 128 := by
  unfold Sl.wholeS
  have e : s.extract 0 (min s.size 128) = s := by
    rw [show min s.size 128 = s.size by omega]
    exact ByteArray.extract_zero_size
  rw [e]
theorem rwrite_any (R r gb cb gn cn N : Nat) (base now : List ByteArray) (i : Int) (s : ByteArray) (w : World) (h : RD w R r gb cb gn cn N base now) (hs : s.size ≤ 9223372036854775807) :
    Calls Tryz.prog 29 #[.pointer (some ⟨r, 0, none⟩), .int .i64 i, .string s] w fun e w' => e = .returned (.int .i64 (wrE now i s)) ∧ RD w' R r gb cb gn cn N base (wrV now i s) ∧ Turns [gn] w w' := by
  have HT := Lib.hid (there_any R r gb cb gn cn N base now i w h)
  unfold wrE wrV wrOk
  rw [h.ln]
  have HD := Lib.hid h
  cases hb : hasB N i with
  | false =>
    rw [hb] at HT
    rw [Bool.false_and, if_neg (by decide), if_neg (by decide)]
    clear h hb
    go_enter Tryz.func29, Tryz.ntmps29
    go_wp2_with (go_at_call 58; refine HT.out.mono ?_; rintro e w' ⟨rfl, rfl⟩)
    go_ret
    exact ⟨rfl, HD.out, Turns.refl _ _⟩
  | true =>
    rw [hb] at HT
    rw [Bool.true_and]
    by_cases hz : s.size ≤ 128
    · rw [decide_eq_true hz, if_pos rfl, if_pos rfl]
      have hr := hasB_t.1 hb
      obtain ⟨k, rfl⟩ := Int.eq_ofNat_of_zero_le hr.1
      have d0 : w.drew.cell? ⟨gn, k, none⟩ = some (.string (now.getD k ⟨#[]⟩)) := h.cell (k := k) (by omega)
      have c1 := h.c1
      have c1' : w.drew.cell? ⟨r, 1, none⟩ = some (.slice (some ⟨gn, 0, none⟩) N cn) := h.c1
      have hlt : k < N := by omega
      have hlt2 : (k : Int) < (N : Int) := by omega
      have x0 : (0 : Int) ≤ (k : Int) := by omega
      have hrl : r < w.heap.size := h.lt
      have hgl : gn < w.heap.size := h.gn_ge.2
      have HW := Lib.hid (fun W => Sl.whole_any s W (by omega))
      rw [whole_is hz] at HW
      rw [show ((k : Int)).toNat = k by omega]
      have HPT := Lib.hid (fun (W : World) (hW : Below w.heap.size w W) => (h.below hW).put k (Sl.padS s 128))
      have HFZ := Lib.hid (fun (W : World) (hW : Below w.heap.size w W) => (h.below hW).fzn k)
      clear h hb hr
      generalize now.getD k ⟨#[]⟩ = s0 at *
      generalize Sl.padS s 128 = s2 at *
      go_enter Tryz.func29, Tryz.ntmps29
      go_wp2_with (go_at_call 58; refine HT.out.mono ?_; rintro e w' ⟨rfl, rfl⟩)
      go_region_with (go_at_call 49; refine (HW.out _).mono ?_; rintro e w1 ⟨rfl, b1⟩
                      have b2 : Below w.heap.size w w1 := ⟨b1.os, b1.tape, b1.output, b1.size, b1.block⟩
                      have d1 : w1.cell? ⟨gn, k, none⟩ = some (.string s0) := bcell b2 d0 hgl
                      have c2 : w1.cell? ⟨r, 1, none⟩ = some (.slice (some ⟨gn, 0, none⟩) N cn) := bcell b2 c1 hrl
                      have f1 := HFZ.out _ b2)
      all_goals
        go_wp2
        go_ret
        exact ⟨rfl, HPT.out _ b2, (Turns.of_below _ b2).trans (Turns.setCell _ (by simp) _)⟩
    · rw [decide_eq_false hz, if_neg (by decide), if_neg (by decide)]
      clear h hb
      go_enter Tryz.func29, Tryz.ntmps29
      go_wp2_with (go_at_call 58; refine HT.out.mono ?_; rintro e w' ⟨rfl, rfl⟩)
      go_ret
      exact ⟨rfl, HD.out, Turns.refl _ _⟩
end Go.Proofs.YtbkgfkemjhaopaaGreat.Dl
