/-
  WALKS: Join. Conditions: fewer than 2^44 names.
-/
import Derived.Test.YtcijpefddicmiaaDoorSplit
namespace Go.Proofs.YtcijpefddicmiaaDoor
open Go.RowKit

theorem grown_below {w w' : World} (h : Below w.heap.size w w') : w.grownBy w' none := ⟨h.os, h.tape, h.output, h.size, fun k hk _ => h.block k hk⟩
theorem bd_at {w w' : World} {B b : Nat} {p : Value} {l : List Value} (h : Lib.BuilderAt 45 5 B b p l w) (hb : Below w.heap.size w w') : Lib.BuilderAt 45 5 B b p l w' := by
  have hlt := h.lt
  obtain ⟨h1, v, h2, h3, h4⟩ := h
  refine ⟨h1, v, (hb.block b hlt).trans h2, h3.kept (grown_below hb) ?_, h4⟩
  cases hv : v.ownBlock with
  | none => exact Or.inl rfl
  | some x => exact Or.inr (by simp)
theorem bd_keep {w w' : World} {B b : Nat} {l : List Value} (h : Lib.IsBuilder 45 5 B b l w) (hb : Below w.heap.size w w') : Lib.IsBuilder 45 5 B b l w' := h.imp (fun h => bd_at h hb) (fun h => bd_at h hb)
theorem bd_new (w : World) : Lib.IsBuilder 45 5 w.heap.size w.heap.size (Lib.byteCells []) (w.alloc (.cells #[.pointer none, .slice none 0 0] 45)) := by
  refine Or.inl ⟨Nat.le_refl _, .slice none 0 0, ?_, World.ownsRow_nil _ _ _ _, by simp [Value.ownBlock]⟩
  show (w.heap.push _)[w.heap.size]? = _
  simp

theorem glue_len (l : List (List UInt8)) (k : Nat) (hk : k < l.length) : glue (l.take (k + 1)) = glue (l.take k) ++ 47 :: l.getD k [] := by
  rw [List.take_add_one, glue_append, List.getElem?_eq_getElem hk]
  simp [glue, List.getD, List.getElem?_eq_getElem hk]
theorem join_odd {l : List (List UInt8)} {k : Nat} (hk : k < l.length) (h : rightL (l.getD k []) = false) : joinL l = none := by
  unfold joinL
  rw [if_neg (by intro e; subst e; simp at hk), if_neg]
  rintro ⟨h1, _⟩
  have := List.all_eq_true.1 h1 l[k] (List.getElem_mem hk)
  simp [List.getD, List.getElem?_eq_getElem hk] at h
  rw [h] at this
  cases this
theorem join_long {l : List (List UInt8)} {k : Nat} (hk : k < l.length) (h : 255 < (glue (l.take (k + 1))).length) : joinL l = none := by
  unfold joinL
  rw [if_neg (by intro e; subst e; simp at hk), if_neg]
  rintro ⟨_, h1⟩
  have e : glue l = glue (l.take (k + 1)) ++ glue (l.drop (k + 1)) := by rw [← glue_append, List.take_append_drop]
  rw [e, List.length_append] at h1
  omega
theorem join_all {l : List (List UInt8)} (h0 : l ≠ []) (h : ∀ j, j < l.length → rightL (l.getD j []) = true) (h1 : (glue l).length ≤ 255) : joinL l = some (glue l) := by
  unfold joinL
  rw [if_neg h0, if_pos ⟨pieces_all h, h1⟩]

/-- an answer of Join. -/
def RetJoin (w : World) (o : Option (List UInt8)) (e : Ending) (w' : World) : Prop :=
  e = .returned (.tuple #[.string (bs (o.getD [])), .int .i64 (errI o)]) ∧ Below w.heap.size w w'

set_option maxHeartbeats 4000000 in
theorem join_any (l : List (List UInt8)) (A : Option Addr) (n c : Nat) (w : World) (hA : StrsAt w w.heap.size A n l) (hn : n ≤ 17592186044416) : Calls Tryd.prog 18 #[.slice A n c] w (RetJoin w (joinL l)) := by
  by_cases h0 : n = 0
  · subst h0
    have hl : l = [] := List.eq_nil_of_length_eq_zero hA.len
    subst hl
    go_enter Tryd.func18, Tryd.ntmps18
    go_wp2
    go_ret2
    exact ⟨rfl, Below.refl _ _⟩
  · have hl0 : l ≠ [] := by intro e; subst e; exact h0 hA.len.symm
    have hlen := hA.len
    have h0' : ((n : Int) == 0) = false := by rw [beq_eq_false_iff_ne]; omega
    obtain ⟨a0, o0, rfl, ha0, -⟩ := hA.at_ (k := 0) (by omega)
    have HODD : Hid (∀ k, k < n → rightL (l.getD k []) = false → joinL l = none) := fun k hk h => join_odd (by omega) h
    have HLONG : Hid (∀ k, k < n → 255 < (glue (l.take (k + 1))).length → joinL l = none) := fun k hk h => join_long (by omega) h
    have HALL : Hid ((∀ j, j < n → rightL (l.getD j []) = true) → (glue (l.take n)).length ≤ 255 → joinL l = some (glue (l.take n))) := fun h h1 => by
      rw [← hlen, List.take_length] at h1 ⊢
      exact join_all hl0 (fun j hj => h j (by omega)) h1
    have HST : Hid (∀ k, k < n → glue (l.take (k + 1)) = glue (l.take k) ++ 47 :: l.getD k []) := fun k hk => glue_len l k (by omega)
    have HA := Lib.hid hA
    clear hA
    generalize joinL l = o at *
    have HB := Lib.hid (bd_new w)
    have HW : Hid (Below w.heap.size w (w.alloc (.cells #[.pointer none, .slice none 0 0] 45))) := (Below.refl _ _).alloc (Nat.le_refl _) _
    have HZ : Hid ((w.alloc (.cells #[.pointer none, .slice none 0 0] 45)).heap.size = w.heap.size + 1) := by show _ = _; simp
    go_enter Tryd.func18, Tryd.ntmps18
    go_wp2_with fail
    generalize w.alloc (.cells #[.pointer none, .slice none 0 0] 45) = w0 at *
    go_loopw [12] (fun i wr => ∃ k : Nat, i = .int .i64 (k : Int) ∧ k ≤ n ∧ Lib.IsBuilder 45 5 w.heap.size w.heap.size (Lib.byteCells (glue (l.take k))) wr ∧ Below w.heap.size w wr ∧ (glue (l.take k)).length ≤ 255 ∧ Hid (∀ j, j < k → rightL (l.getD j []) = true)) (fun i _ => n - (intOf i).toNat)
    case atStart => exact ⟨0, rfl, Nat.zero_le _, HB.out, HW.out, by simp [glue], fun j hj => absurd hj (Nat.not_lt_zero _)⟩
    case round =>
      obtain ⟨k, rfl, hk, hbd, hb, hle, hok⟩ := hrel
      by_cases hlt : k < n
      · have hlt' : (k : Int) < (n : Int) := by omega
        have hc : wr.cell? ⟨a0, o0 + k, none⟩ = some (.string (bs (l.getD k []))) := by
          obtain ⟨b, o, e, hB, hcc⟩ := HA.out.at_ hlt
          cases e
          exact (hb.cell hB).trans hcc
        cases hR : rightL (l.getD k []) with
        | false =>
          have HN := Lib.hid (HODD.out k hlt hR)
          have HRt : Hid (∀ W, Calls Tryd.prog 11 #[.string (bs (l.getD k []))] W fun e w' => e = .returned (.bool false) ∧ Below W.heap.size W w') := fun W => by
            have := right_any (bs (l.getD k [])) W
            rwa [show rightB (bs (l.getD k [])) = false from hR] at this
          clear hR
          generalize bs (l.getD k []) = X at *
          go_wp2_with fail
          refine (HRt.out _).mono ?_
          rintro e w2 ⟨rfl, hb2⟩
          go_wp2
          go_ret2
          rw [HN.out]
          exact ⟨rfl, hb.trans (hb2.mono hb.size)⟩
        | true =>
          have hq := rightL_len hR
          have HRt : Hid (∀ W, Calls Tryd.prog 11 #[.string (bs (l.getD k []))] W fun e w' => e = .returned (.bool true) ∧ Below W.heap.size W w') := fun W => by
            have := right_any (bs (l.getD k [])) W
            rwa [show rightB (bs (l.getD k [])) = true from hR] at this
          have hxs : (bs (l.getD k [])).size = (l.getD k []).length := rfl
          have hst := HST.out k hlt
          have hst2 : (glue (l.take (k + 1))).length = (glue (l.take k)).length + 1 + (l.getD k []).length := by rw [hst]; simp; omega
          have HOK : Hid (∀ j, j < k + 1 → rightL (l.getD j []) = true) := fun j hj => by
            rcases Nat.lt_or_ge j k with h | h
            · exact hok.out j h
            · obtain rfl : j = k := by omega
              exact hR
          have HCELLS : Hid (Lib.byteCells (glue (l.take k)) ++ Lib.strCells ⟨#[47]⟩ ++ Lib.strCells (bs (l.getD k [])) = Lib.byteCells (glue (l.take (k + 1)))) := by
            show _ = _
            rw [hst, Lib.strCells_eq, Lib.strCells_eq, bs_data]
            simp [Lib.byteCells]
          have hbl : (Lib.byteCells (glue (l.take k))).length = (glue (l.take k)).length := Lib.byteCells_length _
          by_cases hlong : 255 < (glue (l.take (k + 1))).length
          · have HN := Lib.hid (HLONG.out k hlt hlong)
            have hsum : (255 : Int) < ((Lib.byteCells (glue (l.take k))).length : Int) + 1 + ((bs (l.getD k [])).size : Int) := by omega
            have hbb : (Lib.byteCells (glue (l.take k))).length ≤ 255 := by omega
            have hxx : (bs (l.getD k [])).size ≤ 11 := by omega
            clear hR hst hst2 HCELLS hlong hxs hq hbl
            generalize bs (l.getD k []) = X at *
            generalize Lib.byteCells (glue (l.take k)) = Y at *
            go_wp2_with fail
            refine (HRt.out _).mono ?_
            rintro e w2 ⟨rfl, hb2⟩
            have hbd2 := bd_keep hbd hb2
            go_wp2_with fail
            refine (Builder_Len _ _ _ _ hbd2).mono ?_
            rintro e w3 ⟨rfl, rfl⟩
            go_wp2
            go_ret2
            rw [HN.out]
            exact ⟨rfl, hb.trans (hb2.mono hb.size)⟩
          · have hsum : ¬ (255 : Int) < ((Lib.byteCells (glue (l.take k))).length : Int) + 1 + ((bs (l.getD k [])).size : Int) := by omega
            have hbb : (Lib.byteCells (glue (l.take k))).length ≤ 255 := by omega
            have hxx : (bs (l.getD k [])).size ≤ 11 := by omega
            have hnew : (glue (l.take (k + 1))).length ≤ 255 := by omega
            clear hR hst hst2 hlong hxs hq hbl
            generalize bs (l.getD k []) = X at *
            generalize Lib.byteCells (glue (l.take k)) = Y at *
            go_wp2_with fail
            refine (HRt.out _).mono ?_
            rintro e w2 ⟨rfl, hb2⟩
            have hbd2 := bd_keep hbd hb2
            have hB2 : Below w.heap.size w w2 := hb.trans (hb2.mono hb.size)
            go_wp2_with fail
            refine (Builder_Len _ _ _ _ hbd2).mono ?_
            rintro e w3 ⟨rfl, rfl⟩
            go_wp2_with fail
            refine (Builder_WriteString w.heap.size w.heap.size Y ⟨#[47]⟩ w3 hbd2 (by show _ + 1 ≤ _; omega) hB2.size).mono ?_
            rintro e w4 ⟨rfl, hbd4, hb4⟩
            have hB4 : Below w.heap.size w w4 := hB2.trans hb4
            go_wp2_with fail
            refine (Builder_WriteString w.heap.size w.heap.size _ X w4 (Or.inr hbd4) (by rw [List.length_append, Lib.strCells_length]; show _ + 1 + _ ≤ _; omega) hB4.size).mono ?_
            rintro e w5 ⟨rfl, hbd5, hb5⟩
            rw [HCELLS.out] at hbd5
            go_wp2
            go_roundw
            case rel => exact ⟨k + 1, by go_num, hlt, Or.inr hbd5, hB4.trans hb5, hnew, HOK⟩
            case measure => simp [intOf]; omega
      · have hlt' : ¬ (k : Int) < (n : Int) := by omega
        have hkk : k = n := by omega
        subst hkk
        have HN := Lib.hid (HALL.out hok.out hle)
        go_wp2_with fail
        refine (Builder_String_any w.heap.size w.heap.size (glue (l.take k)) wr hbd hb.size).mono ?_
        rintro e w2 ⟨rfl, hb2⟩
        go_wp2
        go_ret2
        rw [HN.out]
        exact ⟨rfl, hb.trans hb2⟩
end Go.Proofs.YtcijpefddicmiaaDoor
