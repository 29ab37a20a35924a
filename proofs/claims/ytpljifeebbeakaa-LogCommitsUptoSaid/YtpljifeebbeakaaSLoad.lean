/-
  WALKS: Load and New. Conditions: strings of at most 9223372036854775807 bytes.
-/
import Derived.Test.YtpljifeebbeakaaSTexts
import Derived.Carry
import Derived.RegionTactic
import Derived.Deep.RegionWith
import Derived.ChangeAlike
namespace Go.Proofs.Ytpljifeebbeakaa.Sl
open Go.RowKit Go.Maps

theorem SlabAt.setDur {w : World} {p pd pm : Nat} {σ : St} (h : SlabAt w p pd pm σ) (k : Nat) (s : ByteArray) :
    SlabAt (w.setCell ⟨pd, k, none⟩ (.string s)) p pd pm { σ with dur := σ.dur.set k s } ∧ Turns [pd] w (w.setCell ⟨pd, k, none⟩ (.string s)) := by
  have t : Turns [pd] w (w.setCell ⟨pd, k, none⟩ (.string s)) := Turns.setCell w (by simp) _
  have h1 := h.ne
  have h2 := h.ne_md
  have hl := h.lt_m
  refine ⟨⟨?_, RowAt.set (ss := σ.dur) h.hd k s, ?_, ?_, ?_, h.ne⟩, t⟩
  · have := (t.block p h.lt_p (by simp; exact h1)).trans h.hp
    simpa [St.cells] using this
  · obtain ⟨D, ⟨es, cl, hb, r⟩, hl2⟩ := h.hm
    exact ⟨D, ⟨es, cl, (t.block pm hl (by simp; exact h2)).trans hb, r⟩, hl2⟩
  · intro i hi
    have := h.ok i hi
    simpa using this
  · simpa using h.len

/-- what a slab is that was loaded. -/
def St.fresh (l : List ByteArray) : St := ⟨l, fun _ => none, 0, false, 0⟩
def loadS (ss : List ByteArray) : List ByteArray := (ss.take 1000).map wholeS

theorem SlabAt.made (w : World) (l : List ByteArray) (hl : l.length ≤ 1000) (M : Array Value) (hM : M = (l.map Value.string).toArray) :
    SlabAt (((w.alloc (.cells M 9)).alloc (.map #[] 0)).alloc (.cells #[.slice (some ⟨w.heap.size, 0, none⟩) l.length l.length, .map (some (w.heap.size + 1)), .int .i64 0, .bool false, .int .i64 0] 64)) (w.heap.size + 1 + 1) w.heap.size (w.heap.size + 1) (St.fresh l) := by
  refine ⟨?_, ?_, ⟨.map [], ?_, fun i => lk_empty i⟩, ?_, hl, by omega⟩
  · have e := heap_alloc_new ((w.alloc (.cells M 9)).alloc (.map #[] 0)) (.cells #[.slice (some ⟨w.heap.size, 0, none⟩) l.length l.length, .map (some (w.heap.size + 1)), .int .i64 0, .bool false, .int .i64 0] 64)
    have e2 : ((w.alloc (.cells M 9)).alloc (.map #[] 0)).heap.size = w.heap.size + 1 + 1 := by simp
    rw [e2] at e
    exact e
  · have t : Turns [] (w.alloc (.cells M 9)) (((w.alloc (.cells M 9)).alloc (.map #[] 0)).alloc (.cells #[.slice (some ⟨w.heap.size, 0, none⟩) l.length l.length, .map (some (w.heap.size + 1)), .int .i64 0, .bool false, .int .i64 0] 64)) := (Turns.alloc _ _ _).trans (Turns.alloc _ _ _)
    rw [t.block w.heap.size (by simp) (by simp), heap_alloc_new, hM]
    rfl
  · have := World.ownsMap_made (w.alloc (.cells M 9)) Try.prog 3 pendElem
    have e : (w.alloc (.cells M 9)).heap.size = w.heap.size + 1 := by simp
    rw [e] at this
    exact (this.mono (by omega)).alloc _
  · intro i hi; exact absurd rfl hi

set_option maxHeartbeats 4000000 in
theorem load_any (A : Option Addr) (n c : Nat) (ss : List ByteArray) (w : World) (hA : StrsAt w A n ss) (hn : ss.length = n) (hnc : n ≤ c) (hsz : ∀ s, s ∈ ss → s.size ≤ 9223372036854775807) :
    Calls Try.prog 23 #[.slice A n c] w fun e w' => e = .returned (.pointer (some ⟨w.heap.size + 1 + 1, 0, none⟩)) ∧ SlabAt w' (w.heap.size + 1 + 1) w.heap.size (w.heap.size + 1) (St.fresh (loadS ss)) ∧ Below w.heap.size w w' := by
  obtain ⟨m, hm⟩ : ∃ m : Nat, m = min n 1000 := ⟨_, rfl⟩
  have hm1 : m ≤ 1000 := by omega
  have hm2 : m ≤ n := by omega
  have hmt : (min (n : Int) 1000).toNat = m := by omega
  have hmt' : (min (n : Int) 1000) = m := by omega
  obtain ⟨L, hL⟩ : ∃ L, L = loadS ss := ⟨_, rfl⟩
  have hLl : L.length = m := by rw [hL]; simp [loadS]; omega
  obtain ⟨M, hM, hmk⟩ := make_strs m hm1
  have hmm := @run_makeMap Try.prog
  have HM := Lib.hid hM
  have HL := Lib.hid hL
  have HLl := Lib.hid hLl
  have HA := Lib.hid hA
  have Hsz := Lib.hid hsz
  have HN := Lib.hid hn
  have HMM := Lib.hid hm
  have HMT := Lib.hid hmt
  clear hM hL hLl hA hsz hn hm hmt
  go_enter Try.func23, Try.ntmps23
  go_wp2
  go_loopw [19] (fun i wr => ∃ k : Nat, k ≤ m ∧ i = .int .i64 k ∧ SlabAt wr (w.heap.size + 1 + 1) w.heap.size (w.heap.size + 1) (St.fresh (fill L ⟨#[]⟩ k)) ∧ Below w.heap.size w wr) (fun i _ => m - (intOf i).toNat)
  case atStart =>
    refine ⟨0, Nat.zero_le _, rfl, ?_, ?_⟩
    · rw [fill_zero, HLl.out]
      have := SlabAt.made w (List.replicate m ⟨#[]⟩) (by simp; exact hm1) M HM.out
      simpa using this
    · exact (((Below.refl _ _).alloc (Nat.le_refl _) _).alloc (by simp) _).alloc (by simp; omega) _
  case round =>
    obtain ⟨k, hk, rfl, hs, hb⟩ := hrel
    by_cases hlt : k < m
    · obtain ⟨b, o, rfl, hc0⟩ := HA.out k (by omega)
      have hck : wr.cell? ⟨b, o + k, none⟩ = some (.string (ss.getD k ⟨#[]⟩)) := (hb.cell (World.block_lt_of_cell? w _ hc0)).trans hc0
      have hkm : ss.getD k ⟨#[]⟩ ∈ ss := by
        have : k < ss.length := by rw [HN.out]; omega
        simp only [List.getD, List.getElem?_eq_getElem this, Option.getD_some]
        exact List.getElem_mem this
      have hsk := Hsz.out _ hkm
      have HLk : Hid (L[k]? = some (wholeS (ss.getD k ⟨#[]⟩))) := by
        show _ = _
        have : k < ss.length := by rw [HN.out]; omega
        rw [HL.out]
        simp only [loadS, List.getElem?_map, List.getElem?_take_of_lt (show k < 1000 by omega), List.getElem?_eq_getElem this, Option.map_some, List.getD, Option.getD_some]
      have hlen : (St.fresh (fill L ⟨#[]⟩ k)).dur.length = m := by show (fill L _ k).length = m; rw [fill_len _ _ (by rw [HLl.out]; exact hk), HLl.out]
      have c0 := hs.c0
      have fd := hs.fzd k
      obtain ⟨v0, hv0⟩ : ∃ v, wr.cell? ⟨w.heap.size, k, none⟩ = some v := ⟨_, hs.d (by rw [hlen]; exact hlt)⟩
      rw [hlen] at c0
      have Hs := Lib.hid hs
      have HB := Lib.hid hb
      clear hs hb hkm hc0
      generalize ss.getD k ⟨#[]⟩ = S at *
      have HPR : Hid (padR (S.extract 0 (min (S.size : Int) 128).toNat) 128 = (wholeS S, 0)) := by
        show _ = _
        rw [padR_ok (by omega) (by rw [ByteArray.size_extract]; omega)]
        unfold wholeS
        rw [show (min (S.size : Int) 128).toNat = min S.size 128 by omega]
        rfl
      have HSX : Hid ((S.extract 0 (min (S.size : Int) 128).toNat).size ≤ 9223372036854775807) := by show _ ≤ _; rw [ByteArray.size_extract]; omega
      have HlP := Lib.hid Hs.out.lt_p
      have HlD := Lib.hid Hs.out.lt_d
      go_wp2_with fail
      go_region_with ((go_at_call 35; refine (pad_any _ 128 _ HSX.out (by omega)).mono ?_; rintro e w2 ⟨rfl, b2⟩; rw [HPR.out]; have c02 := (b2.cell (p := ⟨w.heap.size + 1 + 1, 0, none⟩) HlP.out).trans c0; have hv02 := (b2.cell (p := ⟨w.heap.size, k, none⟩) HlD.out).trans hv0; have fd2 := (b2.frozen (p := ⟨w.heap.size, k, none⟩) HlD.out).trans fd))
      all_goals
        have HB2 := Lib.hid b2
        clear b2 c02 hv02 fd2 hv0 c0 fd hck
        go_wp2
        go_roundw
        case rel =>
          have hb2 : Below wr.heap.size wr w2 := ⟨HB2.out.os, HB2.out.tape, HB2.out.output, HB2.out.size, fun i hi => HB2.out.block i hi⟩
          obtain ⟨h3, t3⟩ := (Hs.out.keptB (Turns.of_below _ hb2)).setDur k (wholeS S)
          refine ⟨k + 1, by omega, by go_num, ?_, (HB.out.trans (hb2.mono HB.out.size)).setCell (Nat.le_refl _) _⟩
          rw [← fill_set _ _ (by rw [HLl.out]; exact hlt) HLk.out]
          exact h3
        case measure => simp [intOf]; omega
    · have HK : Hid (k = m) := by show k = m; omega
      have Hs := Lib.hid hs
      clear hs
      go_wp2
      go_ret
      refine ⟨rfl, ?_, hb⟩
      have := Hs.out
      rw [HK.out, ← HLl.out, fill_full, HL.out] at this
      exact this
end Go.Proofs.Ytpljifeebbeakaa.Sl
