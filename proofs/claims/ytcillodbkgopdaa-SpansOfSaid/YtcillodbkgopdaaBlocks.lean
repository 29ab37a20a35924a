/-
  WALK: Blocks: how many there are. Conditions: spans whose fields are far from the ends of an int64; at most 100000 blocks.
-/
import Derived.Test.YtcillodbkgopdaaCut
namespace Go.Proofs.Ytcillodbkgopdaa
open Go.RowKit

theorem total_take (l : List Sp) (k : Nat) (hk : k < l.length) : total (l.take (k + 1)) = total (l.take k) + min (max (l.getD k Sp.z).len 0) 65536 := by
  have e : l.getD k Sp.z = l[k] := by simp [List.getD, List.getElem?_eq_getElem hk]
  rw [e, List.take_succ_eq_append_getElem hk, total_snoc]
theorem total_pos : ∀ l : List Sp, 0 ≤ total l
  | [] => by simp [total]
  | s :: r => by have := total_pos r; simp only [total]; omega
theorem total_app : ∀ l r : List Sp, total (l ++ r) = total l + total r
  | [], r => by simp [total]
  | s :: l, r => by simp only [List.cons_append, total]; rw [total_app l r]; omega
theorem total_le (l : List Sp) (k : Nat) : total (l.take k) ≤ total l := by
  have h := total_app (l.take k) (l.drop k)
  rw [List.take_append_drop] at h
  have := total_pos (l.drop k)
  omega
theorem one_cell_int (x : Int) : ∀ u ∈ [Value.int .i64 x], u.oneCell' = true := by simp [Value.oneCell']

/-- 'append(l, x)' of ints, at the list of a plain region's operations. -/
theorem pushI_law {ops : Array Oper} {rest : List Oper} {o : Oper} {a : Act} {Q : Exit → Act → World → Prop} (hgd : o.guard = none) (s x : Operand)
    (ho : o.op = .call { callee := .builtin .append, args := #[s, x], argTypes := #[22, 22] })
    (base : Nat) (W : World) (v : Value) (n : Nat) (xs : List Value) (z : Int) (hs : a.eval s = v) (hx : a.eval x = .slice (some ⟨W.heap.size, 0, none⟩) 1 1)
    (hown : W.ownsRow base 3 1 v n xs) (hl : n ≤ 1000000) (hbase : base ≤ W.heap.size)
    (h : ∀ v' w', w'.ownsRow base 3 1 v' (n + 1) (xs ++ [.int .i64 z]) → Below base W w' → (∀ k, k < W.heap.size → v.ownBlock ≠ some k → w'.heap[k]? = W.heap[k]?) → W.heap.size < w'.heap.size → wpList Try.prog ops Q rest (a.put o.dst v') w') :
    wpList Try.prog ops Q (o :: rest) a (W.alloc (.cells #[.int .i64 z] 3)) := by
  obtain ⟨i0, hi, hz0, hz1, hz2⟩ := info_parts info3
  refine wpList_append_own _ hgd s x 22 ho base 3 i0 _ 1 8 Try.underlying22 hi hz0 hz1 hz2 rfl (by decide) v n xs hs (hown.alloc _) ⟨W.heap.size, 0, none⟩ 1 1 [.int .i64 z] hx rfl
    (World.news_of_block (heap_alloc_new W _)) (one_cell_int z) (by unfold maxLen; omega) (by omega) (by simp; omega) ?_
  intro v' w' hown' hg _
  refine h v' w' hown' ?_ (fun p hp hne => ?_) (by have := hg.size; simp at this; omega)
  · exact (((Below.refl base W).alloc hbase _).grown hg (by simp; omega) (fun k hk => (hown.lt k hk).1))
  · rw [hg.block p (by simp; omega) (fun e => hne e.symm)]
    exact Below.heap_alloc W _ p hp

theorem own_ne_st {w : World} {base n : Nat} {v : Value} {xs : List Value} {p : Nat} {cs : Array Value} (h : w.ownsRow base 3 1 v n xs) (hp : w.heap[p]? = some (.cells cs 38 (0, 0))) : v.ownBlock ≠ some p := by
  rcases h.2 with ⟨rfl, _⟩ | ⟨g, cap, cur, rfl, _, hg, _⟩
  · simp [Value.ownBlock]
  · intro e
    have : g = p := by simpa [Value.ownBlock] using e
    subst this
    rw [hp] at hg
    cases hg

def RetLen (w : World) (m : Nat) (e : Ending) (w' : World) : Prop := ∃ A c, e = .returned (.slice A m c) ∧ Below w.heap.size w w'
/-- a row of ints of one's own, as long as T says. -/
def Long (w : World) (base : Nat) (v : Value) (T : Int) : Prop := ∃ m xs, w.ownsRow base 3 1 v m xs ∧ (m : Int) = T

set_option maxHeartbeats 4000000 in
theorem blocks_any (A : Option Addr) (n c B : Nat) (l : List Sp) (w : World) (hA : SpsAt w B A n l) (hB : B ≤ w.heap.size) (hn : n ≤ 1000000000) (hl : ∀ s ∈ l, s.small) (ht : total l ≤ 100000) :
    Calls Try.prog 18 #[.slice A n c] w (RetLen w (total l).toNat) := by
  have HL := Lib.hid hA.len
  have HA := Lib.hid hA
  have HS := Lib.hid hl
  have HTL := Lib.hid (fun k => total_le l k)
  have HTP := Lib.hid (fun k => total_pos (l.take k))
  clear hA hl
  go_enter Try.func18, Try.ntmps18
  go_wp2
  go_loopw [3, 5, 6, 9] (fun v _ _ j wr => ∃ k : Nat, k ≤ n ∧ j = .int .i64 (k : Int) ∧ Long wr w.heap.size v (total (l.take k)) ∧ Below w.heap.size w wr) (fun _ _ _ j _ => n - (intOf j).toNat)
  case atStart => exact ⟨0, by omega, rfl, ⟨0, [], World.ownsRow_nil _ _ _ _, rfl⟩, Below.refl _ _⟩
  case round =>
    obtain ⟨k, hk, rfl, ⟨m, xs, hown, hm⟩, hb⟩ := hrel
    have HOWN := Lib.hid hown
    have HB := Lib.hid hb
    have HM := Lib.hid hm
    by_cases hlt : k < n
    · obtain ⟨b, o, rfl, hbB, h1, h2, h3⟩ := HA.out.at_ hlt
      have hbl : b < w.heap.size := by omega
      have c1 := bcell hb h1 hbl
      have c2 := bcell hb h2 hbl
      have c3 := bcell hb h3 hbl
      have hws := hb.size
      have hkl : k < l.length := by rw [HL.out]; exact hlt
      have hsm : (l.getD k Sp.z).small := by
        rw [show l.getD k Sp.z = l[k] by simp [List.getD, List.getElem?_eq_getElem hkl]]
        exact HS.out _ (List.getElem_mem hkl)
      have HT := Lib.hid (total_take l k hkl)
      have HLI := Lib.hid (listed_any (l.getD k Sp.z))
      generalize l.getD k Sp.z = s at *
      obtain ⟨hs1, hs2, hs3⟩ := hsm
      obtain ⟨sa, sp, sl⟩ := s
      simp only at c1 c2 c3 hs1 hs2 hs3 HT HLI
      obtain ⟨q, hq⟩ : ∃ q : Nat, (q : Int) = min (max sl 0) 65536 := ⟨(min (max sl 0) 65536).toNat, by omega⟩
      rw [← hq] at HT HLI
      have hqb : (q : Int) ≤ 65536 := by omega
      have hmq : (m : Int) + q ≤ 100000 := by
        have := HTL.out (k + 1)
        rw [HT.out] at this
        omega
      clear h1 h2 h3 hown hb hkl hq hm
      go_wp2_with fail
      refine (HLI.out _).mono ?_
      rintro e w2 ⟨rfl, b2⟩
      have HST : Hid (StAt w2 wr.heap.size sa sp sl) := (StAt.new wr sa sp sl).below b2 (by simp)
      have HO2 : Hid (w2.ownsRow w.heap.size 3 1 _ m xs) := own_below (HOWN.out.alloc (.cells #[.int .i64 sa, .int .i64 sp, .int .i64 sl] 38)) b2 (Nat.le_refl _)
      have HB2 : Hid (Below w.heap.size w w2) := (HB.out.alloc hws _).trans (b2.mono (by simp; omega))
      clear b2
      go_wp2
      go_loopw [3, 6, 15] (fun v _ i wi => ∃ (i' : Nat) (xs' : List Value), i' ≤ q ∧ i = .int .i64 (i' : Int) ∧ wi.ownsRow w.heap.size 3 1 v (m + i') xs' ∧ StAt wi wr.heap.size sa sp sl ∧ Below w.heap.size w wi) (fun _ _ i _ => q - (intOf i).toNat)
      case atStart => exact ⟨0, xs, by omega, rfl, HO2.out, HST.out, HB2.out⟩
      case round =>
        obtain ⟨i', xs', hi, rfl, hown', hst, hb'⟩ := hrel
        have HO' := Lib.hid hown'
        have HST' := Lib.hid hst
        have HB' := Lib.hid hb'
        have k1 := hst.c1
        by_cases q1 : i' < q
        · have e1 : decide ((i' : Int) < (q : Int)) = true := by simp; omega
          have e1' : decide (i' < q) = true := by simp; omega
          obtain ⟨A', c', rfl, hc'⟩ := own_slice hown'
          have HNE := Lib.hid (own_ne_st hown' hst)
          have hpl := hst.lt
          clear hown' hst hb'
          go_wp2_with (at_builtin; refine pushI_law rfl (.tmp 18) (.tmp 23) rfl w.heap.size _ (.slice A' (m + i') c') (m + i') xs' (sp + (i' : Int)) rfl rfl HO'.out (by omega) HB'.out.size ?_; intro v' w3 hown3 hb3 hk3 hs3)
          go_roundw
          case rel => exact ⟨i' + 1, _, by omega, by go_num, hown3, (hk3 _ hpl HNE.out).trans HST'.out, HB'.out.trans hb3⟩
          case measure => simp [intOf]; omega
        · have e1 : decide ((i' : Int) < (q : Int)) = false := by simp; omega
          have e1' : decide (i' < q) = false := by simp; omega
          have HTT : Hid (((m + i' : Nat) : Int) = total (l.take (k + 1))) := by
            show _ = _
            have := HM.out
            rw [HT.out]; omega
          clear hown' hst hb'
          go_wp2
          go_roundw
          case rel => exact ⟨k + 1, by omega, by go_num, ⟨m + i', xs', HO'.out, HTT.out⟩, HB'.out⟩
          case measure => simp [intOf]; omega
    · obtain ⟨A', c', rfl, hc'⟩ := own_slice hown
      have HFIN : Hid (RetLen w (total l).toNat (.returned (.slice A' m c')) wr) := by
        have e : total (l.take k) = total l := by rw [List.take_of_length_le (by rw [HL.out]; omega)]
        have := HM.out
        rw [e] at this
        rw [← this, Int.toNat_natCast]
        exact ⟨A', c', rfl, HB.out⟩
      clear hm
      go_wp2
      go_ret
      exact HFIN.out
end Go.Proofs.Ytcillodbkgopdaa
