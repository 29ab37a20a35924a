/-
  WALKS: Clone, Split. Conditions: internal/bytealg.MaxLen holds an int.
-/
import Derived.Test.YtcijpefddicmiaaDoorWords
import Derived.Deep.DeepFit
import Derived.Deep.DeepMust
namespace Go.Proofs.YtcijpefddicmiaaDoor
open Go.RowKit

theorem clone_any (s : ByteArray) (w : World) (hs : s.size ≤ 281474976710656) : Calls Tryd.prog 24 #[.string s] w fun e w' => e = .returned (.string s) ∧ Below w.heap.size w w' := by
  go_enter Tryd.func24, Tryd.ntmps24
  go_wp2_with fail
  refine (stringslite_Clone s w hs).mono ?_
  rintro e w' ⟨rfl, hb⟩
  go_wp2
  go_ret
  exact ⟨rfl, hb⟩

/-- an answer of Split. -/
def RetNames (w : World) (o : Option (List (List UInt8))) (e : Ending) (w' : World) : Prop :=
  ∃ A n c, e = .returned (.tuple #[.slice A n c, .int .i64 (errI o)]) ∧ Below w.heap.size w w' ∧ StrsAt w' w'.heap.size A n (o.getD []) ∧ n ≤ c

theorem names_root : namesL [47] = some [] := rfl
theorem names_noslash {p : List UInt8} (h : ∀ r, p ≠ 47 :: r) : namesL p = none := by
  unfold namesL
  rw [if_neg (h [])]
  split
  · rename_i r; exact absurd rfl (h r)
  · rfl
theorem names_long {p : List UInt8} (h : 255 < p.length) : namesL p = none := by
  unfold namesL
  have h1 : p ≠ [47] := by intro e; rw [e] at h; simp at h
  rw [if_neg h1]
  split
  · rw [if_neg (fun x => by omega)]
  · rfl
theorem names_all {r : List UInt8} (h0 : r ≠ []) (h1 : (47 :: r).length ≤ 255) (h2 : (pieces r).all rightL = true) : namesL (47 :: r) = some (pieces r) := by
  unfold namesL
  rw [if_neg (by simpa using h0)]
  simp only
  rw [if_pos ⟨h1, h2⟩]
theorem names_odd {r : List UInt8} (h0 : r ≠ []) {k : Nat} (hk : k < (pieces r).length) (h2 : rightL ((pieces r).getD k []) = false) : namesL (47 :: r) = none := by
  unfold namesL
  rw [if_neg (by simpa using h0)]
  simp only
  rw [if_neg]
  rintro ⟨_, h⟩
  have := List.all_eq_true.1 h (pieces r)[k] (List.getElem_mem hk)
  simp [List.getD, List.getElem?_eq_getElem hk] at h2
  rw [h2] at this
  cases this

theorem lib_split (r : List UInt8) (w : World) (hr : r.length < 4294967281) (hm : MaxAt w) :
    Calls Tryd.prog 23 #[.string (bs r), .string ⟨#[47]⟩] w fun e w' => ∃ g, w.heap.size ≤ g ∧ e = .returned (.slice (some ⟨g, 0, none⟩) (pieces r).length (pieces r).length) ∧ StrRow w' g (pieces r) ∧ Below w.heap.size w w' := by
  obtain ⟨m, hm⟩ := hm
  refine (strings_Split (bs r) ⟨#[47]⟩ m w hr hm (by decide)).mono ?_
  rintro e w' ⟨he, hw⟩
  rw [split_len] at he
  rw [split_cells] at hw
  refine ⟨w.heap.size, Nat.le_refl _, he, ?_, ?_⟩
  · rw [hw]; exact StrRow.new w _
  · rw [hw]; exact (Below.refl _ _).alloc (Nat.le_refl _) _
theorem pieces_all {Q : List (List UInt8)} (h : ∀ j, j < Q.length → rightL (Q.getD j []) = true) : Q.all rightL = true := by
  rw [List.all_eq_true]
  intro q hq
  obtain ⟨j, hj, rfl⟩ := List.getElem_of_mem hq
  have := h j hj
  simpa [List.getD, List.getElem?_eq_getElem hj] using this
theorem piece_len : ∀ (r : List UInt8) (q : List UInt8), q ∈ pieces r → q.length ≤ r.length
  | [], q, h => by simp [pieces] at h; subst h; simp
  | c :: r, q, h => by
    unfold pieces at h
    split at h
    · rcases List.mem_cons.1 h with e | e
      · subst e; simp
      · have := piece_len r q e; simp; omega
    · split at h
      · rename_i e; exact absurd e (pieces_ne r)
      · rename_i x xs e
        rcases List.mem_cons.1 h with e' | e'
        · subst e'
          have := piece_len r x (by rw [e]; simp)
          simp; omega
        · have := piece_len r q (by rw [e]; simp [e'])
          simp; omega
theorem pieces_count : ∀ r : List UInt8, (pieces r).length ≤ r.length + 1
  | [] => by simp [pieces]
  | c :: r => by
    have ih := pieces_count r
    unfold pieces
    split
    · simp; omega
    · split
      · simp
      · rename_i x xs e
        rw [e] at ih
        simp at ih ⊢
        omega

set_option maxHeartbeats 2000000 in
theorem split_any (p : List UInt8) (w : World) (_hp : p.length ≤ 140737488355328) (hm : MaxAt w) : Calls Tryd.prog 9 #[.string (bs p)] w (RetNames w (namesL p)) := by
  by_cases h0 : p = [47]
  · subst h0
    have ht : (bs [47]).toList = [47] := by rw [ByteArray.toList_eq]; rfl
    go_enter Tryd.func9, Tryd.ntmps9
    go_wp2
    go_ret2
    exact ⟨none, 0, 0, rfl, Below.refl _ _, StrsAt.nil _ _ _, Nat.le_refl _⟩
  have ht : ((bs p).toList == [47]) = false := by rw [ByteArray.toList_eq, bs_data]; simpa using h0
  have hsz : (bs p).size = p.length := rfl
  by_cases hs : ∃ r, p = 47 :: r
  · obtain ⟨r, rfl⟩ := hs
    have h0' : r ≠ [] := by simpa using h0
    have HCP := strings_CutPrefix (bs (47 :: r)) ⟨#[47]⟩ w
    rw [show (bs (47 :: r)).data.toList = 47 :: r from rfl, show (⟨#[47]⟩ : ByteArray).data.toList = [47] from rfl, (cut_slash r).1, (cut_slash r).2] at HCP
    replace HCP : Hid (Calls Tryd.prog 22 #[.string (bs (47 :: r)), .string ⟨#[47]⟩] w fun e w' => e = .returned (.tuple #[.string (bs r), .bool true]) ∧ w' = w) := HCP
    by_cases hl : 255 < (47 :: r).length
    · have HN := Lib.hid (names_long hl)
      generalize namesL (47 :: r) = o at *
      generalize bs (47 :: r) = P at *
      have hl' : (255 : Int) < (P.size : Int) := by rw [hsz]; omega
      clear h0 hl hsz
      go_enter Tryd.func9, Tryd.ntmps9
      go_wp2_with fail
      refine HCP.out.mono ?_
      rintro e w' ⟨rfl, rfl⟩
      go_wp2
      go_ret2
      rw [HN.out]
      exact ⟨none, 0, 0, rfl, Below.refl _ _, StrsAt.nil _ _ _, Nat.le_refl _⟩
    · have HODD : Hid (∀ k, k < (pieces r).length → rightL ((pieces r).getD k []) = false → namesL (47 :: r) = none) := fun k hk h => names_odd h0' hk h
      have HALL : Hid ((∀ j, j < (pieces r).length → rightL ((pieces r).getD j []) = true) → namesL (47 :: r) = some (pieces r)) := fun h => names_all h0' (by omega) (pieces_all h)
      have HSP := Lib.hid (lib_split r w (by simp at hl; omega) hm)
      have hN : (pieces r).length ≤ 256 := by have := pieces_count r; simp at hl; omega
      have HLEN : Hid (∀ j, (bs ((pieces r).getD j [])).size ≤ 255) := fun j => by
        show ((pieces r).getD j []).length ≤ 255
        rcases Nat.lt_or_ge j (pieces r).length with hj | hj
        · have := piece_len r (pieces r)[j] (List.getElem_mem hj)
          simp [List.getD, List.getElem?_eq_getElem hj] at this ⊢
          simp at hl; omega
        · simp [List.getD, List.getElem?_eq_none hj]
      have hl' : ¬ (255 : Int) < ((bs (47 :: r)).size : Int) := by rw [hsz]; omega
      generalize namesL (47 :: r) = o at *
      generalize bs (47 :: r) = P at *
      generalize bs r = R at *
      generalize pieces r = Q at *
      clear h0 hl hsz h0' _hp
      go_enter Tryd.func9, Tryd.ntmps9
      go_wp2_with fail
      refine HCP.out.mono ?_
      rintro e w' ⟨rfl, rfl⟩
      go_wp2_with fail
      refine HSP.out.mono ?_
      rintro e w1 ⟨g, hg, rfl, hrow1, hb1⟩
      go_wp2_with fail
      go_loopw [27] (fun i wr => ∃ k : Nat, i = .int .i64 (k : Int) ∧ k ≤ Q.length ∧ StrRow wr g Q ∧ Below w'.heap.size w' wr ∧ Hid (∀ j, j < k → rightL (Q.getD j []) = true)) (fun i _ => Q.length - (intOf i).toNat)
      case atStart => exact ⟨0, rfl, Nat.zero_le _, hrow1, hb1, fun j hj => absurd hj (Nat.not_lt_zero _)⟩
      case round =>
        obtain ⟨k, rfl, hk, hrow, hb, hok⟩ := hrel
        by_cases hlt : k < Q.length
        · have hlt' : (k : Int) < (Q.length : Int) := by omega
          have hc := hrow.cell k hlt
          have hgl := hrow.lt
          cases hR : rightL (Q.getD k []) with
          | false =>
            have HN := Lib.hid (HODD.out k hlt hR)
            have HRt : Hid (∀ W, Calls Tryd.prog 11 #[.string (bs (Q.getD k []))] W fun e w' => e = .returned (.bool false) ∧ Below W.heap.size W w') := fun W => by
              have := right_any (bs (Q.getD k [])) W
              rwa [show rightB (bs (Q.getD k [])) = false from hR] at this
            clear hR
            generalize bs (Q.getD k []) = X at *
            go_wp2_with fail
            refine (HRt.out _).mono ?_
            rintro e w2 ⟨rfl, hb2⟩
            go_wp2
            go_ret2
            rw [HN.out]
            exact ⟨none, 0, 0, rfl, hb.trans (hb2.mono hb.size), StrsAt.nil _ _ _, Nat.le_refl _⟩
          | true =>
            have HRt : Hid (∀ W, Calls Tryd.prog 11 #[.string (bs (Q.getD k []))] W fun e w' => e = .returned (.bool true) ∧ Below W.heap.size W w') := fun W => by
              have := right_any (bs (Q.getD k [])) W
              rwa [show rightB (bs (Q.getD k [])) = true from hR] at this
            have HCl : Hid (∀ W, Calls Tryd.prog 24 #[.string (bs (Q.getD k []))] W fun e w' => e = .returned (.string (bs (Q.getD k []))) ∧ Below W.heap.size W w') := fun W => clone_any _ W (Nat.le_trans (HLEN.out k) (by decide))
            have HOK : Hid (∀ j, j < k + 1 → rightL (Q.getD j []) = true) := fun j hj => by
              rcases Nat.lt_or_ge j k with h | h
              · exact hok.out j h
              · obtain rfl : j = k := by omega
                exact hR
            have HSET : Hid (∀ W, StrRow W g Q → StrRow (W.setCell ⟨g, k, none⟩ (.string (bs (Q.getD k [])))) g Q) := fun W h => h.same k hlt
            have HCELL : Hid (∀ W, StrRow W g Q → W.cell? ⟨g, k, none⟩ = some (.string (bs (Q.getD k [])))) := fun W h => h.cell k hlt
            clear hR
            generalize bs (Q.getD k []) = X at *
            go_wp2_with fail
            refine (HRt.out _).mono ?_
            rintro e w2 ⟨rfl, hb2⟩
            have hrow2 := hrow.below hb2 hgl
            have c2 := HCELL.out w2 hrow2
            go_wp2_with fail
            refine (HCl.out _).mono ?_
            rintro e w3 ⟨rfl, hb3⟩
            have hrow3 := hrow2.below hb3 hrow2.lt
            have c3 := HCELL.out w3 hrow3
            have f3 := hrow3.fz k
            have hrow4 := HSET.out w3 hrow3
            go_wp2
            go_roundw
            case rel => exact ⟨k + 1, by go_num, hlt, hrow4, ((hb.trans (hb2.mono hb.size)).trans (hb3.mono (Nat.le_trans hb.size hb2.size))).setCell (p := ⟨g, k, none⟩) hg _, HOK⟩
            case measure => simp [intOf]; omega
        · have hlt' : ¬ (k : Int) < (Q.length : Int) := by omega
          have hkk : k = Q.length := by omega
          have HN := Lib.hid (HALL.out fun j hj => hok.out j (by omega))
          go_wp2
          go_ret2
          rw [HN.out]
          exact ⟨some ⟨g, 0, none⟩, Q.length, Q.length, rfl, hb, hrow.strsAt, Nat.le_refl _⟩
  · have HCP := Lib.hid (strings_CutPrefix (bs p) ⟨#[47]⟩ w)
    have HN := Lib.hid (names_noslash (p := p) (fun r e => hs ⟨r, e⟩))
    have HB : Hid (Lib.hasPrefix (bs p).data.toList (⟨#[47]⟩ : ByteArray).data.toList = false) := cut_none (fun r e => hs ⟨r, e⟩)
    clear hs
    go_enter Tryd.func9, Tryd.ntmps9
    go_wp2_with fail
    refine HCP.out.mono ?_
    rintro e w' ⟨rfl, rfl⟩
    rw [HB.out]
    go_wp2
    go_ret2
    rw [HN.out]
    exact ⟨none, 0, 0, rfl, Below.refl _ _, StrsAt.nil _ _ _, Nat.le_refl _⟩
end Go.Proofs.YtcijpefddicmiaaDoor
