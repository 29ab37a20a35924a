/-
  WALK: Right, with its map of the names seen. Conditions: at most 100000 entries.
-/
import Derived.Test.YtmmjpdggneagdaaESmall
import Derived.Maps.OwnSet
import Derived.StringKeys
namespace Go.Proofs.Ytmmjpdggneagdaa
open Go.RowKit Go.Maps

def keyL (s : ByteArray) : Lit := .string s.data.toList
theorem keyL_inj {a b : ByteArray} (h : keyL a = keyL b) : a = b := by
  unfold keyL at h
  injection h with h
  exact ByteArray.ext (Array.ext' h)
def namesE (l : List En) : List ByteArray := (l.filter fun e => !freeB e).map (·.nm)
theorem namesE_len (l : List En) : (namesE l).length = cntL l := by unfold namesE cntL; rw [List.length_map]
theorem namesE_any (l : List En) {s : ByteArray} (h : rightB s = true) : (namesE l).any (fun x => eqB x s) = l.any fun e => eqB e.nm s := by
  rw [Bool.eq_iff_iff]
  simp only [namesE, List.any_map, List.any_eq_true, List.mem_filter, Function.comp_apply]
  constructor
  · rintro ⟨e, ⟨he, -⟩, h2⟩; exact ⟨e, he, h2⟩
  · rintro ⟨e, he, h2⟩
    refine ⟨e, ⟨he, ?_⟩, h2⟩
    cases hf : freeB e with
    | false => rfl
    | true =>
      rw [freeB_iff.1 hf] at h2
      exact absurd (eqB_iff.1 h2).symm (rightB_ne h)
theorem namesE_free (l : List En) {e : En} (h : freeB e = true) : namesE (l ++ [e]) = namesE l := by unfold namesE; simp [h]
theorem namesE_new (l : List En) {e : En} (h : freeB e = false) : namesE (l ++ [e]) = namesE l ++ [e.nm] := by unfold namesE; simp [h]

/-- block b is a set of the names ns, at most n of them. -/
def SeenAt (w : World) (b n : Nat) (ns : List ByteArray) : Prop := ∃ D : DataW Unit, w.ownsMap Try.prog 9 unitElem b n D ∧ (∀ s, Maps.has D (keyL s) = ns.any fun x => eqB x s) ∧ Maps.size D = ns.length
theorem law9 : Keyed Try.prog 9 := string_keyed Try.underlying9
theorem zero49 (w : World) : (zeroValue 49).run Try.prog w = .ok (.agg #[]) w := by kernel_rfl
theorem SeenAt.below {w w' : World} {b n : Nat} {ns : List ByteArray} (h : SeenAt w b n ns) (hb : Below w.heap.size w w') : SeenAt w' b n ns := by
  obtain ⟨D, h1, h2⟩ := h
  exact ⟨D, h1.kept (row := none) ⟨hb.os, hb.tape, hb.output, hb.size, fun k hk _ => hb.block k hk⟩ (by simp), h2⟩
theorem SeenAt.alloc {w : World} {b n : Nat} {ns : List ByteArray} (h : SeenAt w b n ns) (o : Obj) : SeenAt (w.alloc o) b n ns := by
  obtain ⟨D, h1, h2⟩ := h
  exact ⟨D, h1.alloc o, h2⟩
theorem SeenAt.mono {w : World} {b n n' : Nat} {ns : List ByteArray} (h : SeenAt w b n ns) (hn : n ≤ n') : SeenAt w b n' ns := by
  obtain ⟨D, h1, h2⟩ := h
  exact ⟨D, h1.mono hn, h2⟩
theorem SeenAt.made (w : World) : SeenAt (w.alloc (.map #[] 0)) w.heap.size 0 [] := ⟨.map [], World.ownsMap_made _ _ _ _, fun _ => rfl, rfl⟩
theorem SeenAt.put {w w' : World} {b n m : Nat} {ns : List ByteArray} {D : DataW Unit} {s : ByteArray} (h1 : w.ownsMap Try.prog 9 unitElem b n D) (h2 : ∀ s, Maps.has D (keyL s) = ns.any fun x => eqB x s) (h3 : Maps.size D = ns.length)
    (hn : Maps.has D (keyL s) = false) (h : w'.ownsMap Try.prog 9 unitElem b m (D.put (keyL s) (.agg []))) : SeenAt w' b m (ns ++ [s]) := by
  have hm := h1.tidy law9
  refine ⟨_, h, fun t => ?_, ?_⟩
  · rw [List.any_append]
    by_cases e : t = s
    · subst e
      rw [Maps.has_put_same hm.isMap (show WideAt.IsKeyLit (keyL t) from by unfold keyL; trivial)]
      have : eqB t t = true := eqB_iff.2 rfl
      simp [this]
    · have hne : keyL t ≠ keyL s := fun x => e (keyL_inj x)
      rw [Maps.has_put_other hne, h2 t]
      have : eqB s t = false := eqB_ne.2 fun x => e x.symm
      simp [this]
  · rw [Maps.size_put hm, hn]
    simp [h3]

set_option maxHeartbeats 8000000 in
theorem rightE_any (A : Option Addr) (n c B : Nat) (l : List En) (w : World) (hA : EnsAt w B A n l) (hB : B ≤ w.heap.size) (hn : n ≤ 100000) :
    Calls Try.prog 12 #[.slice A n c] w fun e w' => e = .returned (.bool (rightR l)) ∧ Below w.heap.size w w' := by
  have HL := Lib.hid hA.len
  have HA := Lib.hid hA
  clear hA
  by_cases h8 : n % 8 = 0
  · have HR : Hid (rightR l = okE l n) := by
      show _ = _
      unfold rightR
      rw [HL.out]
      simp [h8]
    have hmm := @run_makeMap Try.prog
    have x0 : (n : Int) % 8 = 0 := by omega
    have x1 : ((n : Int) % 8 != 0) = false := by simp [x0]
    go_enter Try.func12, Try.ntmps12
    go_wp2
    clear x0 x1
    go_loopw [5, 6, 7, 15] (fun _ _ _ i wr => ∃ k : Nat, k ≤ n ∧ i = .int .i64 (k : Int) ∧ Hid (okE l k = true) ∧ SeenAt wr w.heap.size k (namesE (l.take k)) ∧ Below w.heap.size w wr ∧ w.heap.size < wr.heap.size) (fun _ _ _ i _ => n - (intOf i).toNat)
    case atStart => exact ⟨0, by omega, rfl, rfl, SeenAt.made w, (Below.refl _ _).alloc (Nat.le_refl _) _, by simp⟩
    case round =>
      obtain ⟨k, hk, rfl, hok, hseen, hb, hws⟩ := hrel
      clear hmm
      by_cases hlt : k < n
      · obtain ⟨b, o, rfl, hbB, h1, h2⟩ := HA.out.at_ hlt
        have hfit := (HA.out.bd k).1
        have hbl : b < w.heap.size := by omega
        have c1 := bcell hb h1 hbl
        have c2 := bcell hb h2 hbl
        have hkl : k < l.length := by rw [HL.out]; exact hlt
        have HSN := Lib.hid (take_snoc l hkl)
        have HNO : Hid (stepB (l.take k) (l.getD k En.z) = false → rightR l = false) := fun h => by rw [HR.out]; exact okE_no hlt h
        have HYES : Hid (stepB (l.take k) (l.getD k En.z) = true → okE l (k + 1) = true) := fun h => by rw [okE, hok.out, h]; rfl
        have HCNT : Hid (cntL (l.take k) ≤ 160) := okE_cnt k (by omega) hok.out
        have HSE := Lib.hid hseen
        have HB := Lib.hid hb
        clear h1 h2 hb hseen hok
        generalize l.take k = acc at *
        generalize l.getD k En.z = x at *
        obtain ⟨s, z⟩ := x
        simp only at c1 c2 hfit
        have n1 : (wr.alloc (.cells #[.string s, .int .i64 z] 43)).cell? ⟨wr.heap.size, 0, none⟩ = some (.string s) := cell_new wr _ 43 0 rfl
        have n2 : (wr.alloc (.cells #[.string s, .int .i64 z] 43)).cell? ⟨wr.heap.size, 1, none⟩ = some (.int .i64 z) := cell_new wr _ 43 1 rfl
        have HS1 := Lib.hid (HSE.out.alloc (.cells #[.string s, .int .i64 z] 43))
        have HB1 : Hid (Below w.heap.size w (wr.alloc (.cells #[.string s, .int .i64 z] 43))) := HB.out.alloc (by omega) _
        have HZ : Hid ((wr.alloc (.cells #[.string s, .int .i64 z] 43)).heap.size = wr.heap.size + 1) := by show _ = _; simp
        cases hf : freeB ⟨s, z⟩ with
        | true =>
          have HC := Lib.hid (fun w => isFree_is true s z w hf)
          have HNX := Lib.hid (HYES.out (by unfold stepB; rw [hf]; rfl))
          have HNM := Lib.hid (namesE_free acc hf)
          clear hf
          go_wp2_with fail
          refine (HC.out _).mono ?_
          rintro e w2 ⟨rfl, b2⟩
          have HS2 := Lib.hid (HS1.out.below b2)
          have HB2 := Lib.hid (HB1.out.trans (b2.mono HB1.out.size))
          have hws2 : w.heap.size < w2.heap.size := by have := b2.size; rw [HZ.out] at this; omega
          clear b2
          go_wp2
          go_roundw
          case rel => exact ⟨k + 1, by omega, by go_num, HNX.out, by rw [HSN.out, HNM.out]; exact HS2.out.mono (Nat.le_succ _), HB2.out, hws2⟩
          case measure => simp [intOf]; omega
        | false =>
          have HC := Lib.hid (fun w => isFree_is false s z w hf)
          have HSTEP : Hid (stepB acc ⟨s, z⟩ = (nodeB z && rightB s && !(acc.any fun x => eqB x.nm s) && decide (cntL acc < 160))) := by show _ = _; unfold stepB; rw [hf, Bool.false_or]
          have HNM := Lib.hid (namesE_new acc hf)
          clear hf
          go_wp2_with fail
          refine (HC.out _).mono ?_
          rintro e w2 ⟨rfl, b2⟩
          have HS2 := Lib.hid (HS1.out.below b2)
          have HB2 := Lib.hid (HB1.out.trans (b2.mono HB1.out.size))
          have m1 := bcell b2 n1 (by simp)
          have m2 := bcell b2 n2 (by simp)
          have hws2 : wr.heap.size < w2.heap.size := by have := b2.size; rw [HZ.out] at this; omega
          clear b2 n1 n2 c1 c2 HS1 HB1 HZ
          have HRC := Lib.hid (fun w => right_any s w)
          cases hr : rightB s with
          | false =>
            rw [hr] at HRC
            have HF := Lib.hid (HNO.out (by rw [HSTEP.out, hr]; simp))
            clear hr
            go_wp2_with fail
            refine (HRC.out _).mono ?_
            rintro e w3 ⟨rfl, b3⟩
            go_wp2
            go_ret
            exact ⟨ret_bool HF.out.symm, HB2.out.trans (b3.mono HB2.out.size)⟩
          | true =>
            rw [hr] at HRC
            have HAN := Lib.hid (namesE_any acc hr)
            have HRT := Lib.hid hr
            clear hr
            go_wp2_with fail
            refine (HRC.out _).mono ?_
            rintro e w3 ⟨rfl, b3⟩
            have HS3 := Lib.hid (HS2.out.below b3)
            have HB3 := Lib.hid (HB2.out.trans (b3.mono HB2.out.size))
            have k1 := bcell b3 m1 hws2
            have k2 := bcell b3 m2 hws2
            have hws3 : wr.heap.size < w3.heap.size := by have := b3.size; omega
            clear b3 m1 m2 HS2 HB2
            have HNC := Lib.hid (fun w => isNode_any z w)
            cases hz : nodeB z with
            | false =>
              rw [hz] at HNC
              have HF := Lib.hid (HNO.out (by rw [HSTEP.out, hz]; simp))
              clear hz
              go_wp2_with fail
              refine (HNC.out _).mono ?_
              rintro e w4 ⟨rfl, rfl⟩
              go_wp2
              go_ret
              exact ⟨ret_bool HF.out.symm, HB3.out⟩
            | true =>
              rw [hz] at HNC
              have HZT := Lib.hid hz
              clear hz
              go_wp2_with fail
              refine (HNC.out _).mono ?_
              rintro e w4 ⟨rfl, rfl⟩
              obtain ⟨D, own3, has3, sz3⟩ := HS3.out
              have HO3 := Lib.hid own3
              have HH3 := Lib.hid has3
              have HSZ3 := Lib.hid sz3
              have HKEY : Hid (keyOf Try.prog 9 (.string s) = some (keyL s)) := Go.WideMaps.keyOf_string_mk Try.underlying9 (by unfold maxLen; omega)
              clear own3 has3 sz3
              cases hv : (acc.any fun x => eqB x.nm s) with
              | true =>
                have HF := Lib.hid (HNO.out (by rw [HSTEP.out, hv]; simp))
                have HV : Hid (Maps.has D (keyL s) = true) := by show _ = _; rw [HH3.out, HAN.out]; exact hv
                clear hv
                go_wp2_with (at_lookup; refine wpList_lookup_own_unit _ rfl _ _ 46 rfl 9 49 law9 Try.underlying46 (zero49 _) w.heap.size k D rfl HO3.out _ _ rfl HKEY.out ?_; rw [HV.out])
                go_ret
                exact ⟨ret_bool HF.out.symm, HB3.out.alloc (by omega) _⟩
              | false =>
                have HV : Hid (Maps.has D (keyL s) = false) := by show _ = _; rw [HH3.out, HAN.out]; exact hv
                have hln : (Builtin.len_ #[46] 3 #[.map (some w.heap.size)]).run Try.prog (w3.alloc (.cells #[] 49)) = .ok (.int .i64 ((cntL acc : Nat) : Int)) (w3.alloc (.cells #[] 49)) := by
                  have := (HO3.out.alloc (.cells #[] 49)).len Try.underlying46 3
                  rw [HSZ3.out, namesE_len] at this
                  exact this
                have hc := HCNT.out
                by_cases h160 : cntL acc = 160
                · have HF := Lib.hid (HNO.out (by rw [HSTEP.out, h160]; simp))
                  rw [h160] at hln
                  clear hv h160 hc
                  go_wp2_with (at_lookup; refine wpList_lookup_own_unit _ rfl _ _ 46 rfl 9 49 law9 Try.underlying46 (zero49 _) w.heap.size k D rfl HO3.out _ _ rfl HKEY.out ?_; rw [HV.out])
                  go_ret
                  exact ⟨ret_bool HF.out.symm, HB3.out.alloc (by omega) _⟩
                · have HNX := Lib.hid (HYES.out (by rw [HSTEP.out, HZT.out, HRT.out, hv]; simp; omega))
                  clear hv
                  generalize cntL acc = m at *
                  have d1 : ((m : Int) == 160) = false := by simp; omega
                  have d2 : ¬ (m : Int) = 160 := by omega
                  clear h160 hc
                  go_wp2_with (first
                    | (at_lookup; refine wpList_lookup_own_unit _ rfl _ _ 46 rfl 9 49 law9 Try.underlying46 (zero49 _) w.heap.size k D rfl HO3.out _ _ rfl HKEY.out ?_; rw [HV.out])
                    | (at_mapUpdate; refine wpList_mapUpdate_own _ rfl _ _ _ 46 rfl 9 49 law9 Try.underlying46 (unitElem (H := Unit)) w.heap.size k D rfl (HO3.out.alloc _) (by unfold maxLen; omega) _ _ _ rfl rfl HKEY.out _ [] unitElem_mk ?_; intro w5 hown5 hgrow5))
                  have HS5 : Hid (SeenAt w5 w.heap.size (k + 1) (namesE acc ++ [s])) := SeenAt.put HO3.out HH3.out HSZ3.out HV.out hown5
                  have HB5 : Hid (Below w.heap.size w w5) := (HB3.out.alloc (by omega) _).grown hgrow5 (by simp; omega) (fun j hj => by cases hj; exact Nat.le_refl _)
                  have hws5 : w.heap.size < w5.heap.size := by have := hgrow5.size; simp at this; omega
                  clear hown5 hgrow5
                  go_roundw
                  case rel => exact ⟨k + 1, by omega, by go_num, HNX.out, by rw [HSN.out, HNM.out]; exact HS5.out, HB5.out, hws5⟩
                  case measure => simp [intOf]; omega
      · have HF : Hid (rightR l = true) := by show _ = _; rw [HR.out, show n = k by omega]; exact hok.out
        go_wp2
        go_ret
        exact ⟨ret_bool HF.out.symm, hb⟩
  · have HR : Hid (rightR l = false) := ref_no_len (by rw [HL.out]; exact h8)
    have x0 : ¬ (n : Int) % 8 = 0 := by omega
    have x1 : ((n : Int) % 8 != 0) = true := by simp [x0]
    go_enter Try.func12, Try.ntmps12
    go_wp2
    go_ret
    exact ⟨ret_bool HR.out.symm, Below.refl _ _⟩
end Go.Proofs.Ytmmjpdggneagdaa
