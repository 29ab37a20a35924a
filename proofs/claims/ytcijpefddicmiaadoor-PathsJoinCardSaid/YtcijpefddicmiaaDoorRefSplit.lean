/-
  WALK: the reference's Split. Conditions: texts of at most 2^47 bytes.
-/
import Derived.Test.YtcijpefddicmiaaDoorSplit
import Derived.Deep.DeepMust
import Derived.OwnWalk
namespace Go.Proofs.YtcijpefddicmiaaDoor
open Go.RowKit

/-- the bytes from f to i. -/
def cutL (p : List UInt8) (f i : Nat) : List UInt8 := (p.drop f).take (i - f)
theorem bs_extract (p : List UInt8) (f i : Nat) : (bs p).extract f i = bs (cutL p f i) := by
  apply ByteArray.ext
  apply Array.toList_inj.1
  simp [bs, cutL, ByteArray.data_extract, List.extract_eq_take_drop]
theorem cutL_len (p : List UInt8) (f i : Nat) : (cutL p f i).length ≤ p.length := by
  unfold cutL; rw [List.length_take, List.length_drop]; omega
theorem drop_cut (p : List UInt8) (f i : Nat) (h1 : f ≤ i) : p.drop f = cutL p f i ++ p.drop i := by
  unfold cutL
  have := List.take_append_drop (i - f) (p.drop f)
  rw [List.drop_drop, show f + (i - f) = i by omega] at this
  exact this.symm
theorem cutL_succ (p : List UInt8) (f i : Nat) (h1 : f ≤ i) (h2 : i < p.length) : cutL p f (i + 1) = cutL p f i ++ [p[i]] := by
  unfold cutL
  rw [show i + 1 - f = (i - f) + 1 by omega, List.take_succ_eq_append_getElem (by rw [List.length_drop]; omega)]
  simp [List.getElem_drop, show f + (i - f) = i by omega]

/-- how far the reference's Split has come. -/
def SpSt (p : List UInt8) (f i : Nat) (out : List (List UInt8)) : Prop :=
  (i ≤ p.length ∧ f ≤ i ∧ 1 ≤ f ∧ pieces (p.drop 1) = out ++ pieces (p.drop f) ∧ (∀ c ∈ cutL p f i, c ≠ 47) ∧ out.all rightL = true) ∨
  (i = p.length + 1 ∧ pieces (p.drop 1) = out ∧ out.all rightL = true)
theorem SpSt.start (p : List UInt8) (h : 1 ≤ p.length) : SpSt p 1 1 [] := by
  left
  refine ⟨h, Nat.le_refl _, Nat.le_refl _, rfl, ?_, rfl⟩
  simp [cutL]
theorem SpSt.next {p : List UInt8} {f i : Nat} {out : List (List UInt8)} (h : SpSt p f i out) (hi : i < p.length) (hc : p[i] ≠ 47) : SpSt p f (i + 1) out := by
  rcases h with ⟨_, h2, h3, h4, h5, h6⟩ | ⟨h1, _⟩
  · left
    refine ⟨by omega, by omega, h3, h4, ?_, h6⟩
    rw [cutL_succ p f i h2 hi]
    intro c hcc
    rcases List.mem_append.1 hcc with h | h
    · exact h5 c h
    · simp at h; subst h; exact hc
  · omega
theorem SpSt.parts {p : List UInt8} {f i : Nat} {out : List (List UInt8)} (h : SpSt p f i out) (hi : i ≤ p.length) (hc : i = p.length ∨ ∃ hi : i < p.length, p[i] = 47) :
    pieces (p.drop 1) = out ++ [cutL p f i] ++ (if i = p.length then [] else pieces (p.drop (i + 1))) := by
  rcases h with ⟨_, h2, h3, h4, h5, h6⟩ | ⟨h1, _⟩
  · rw [h4, List.append_assoc]
    congr 1
    rcases hc with e | ⟨hlt, e⟩
    · rw [if_pos e, List.append_nil]
      have : p.drop f = cutL p f i := by rw [drop_cut p f i h2, e]; simp
      rw [this]
      exact pieces_last _ h5
    · rw [if_neg (by omega), drop_cut p f i h2, List.drop_eq_getElem_cons hlt, e, pieces_cut _ _ h5]
      rfl
  · omega
theorem SpSt.push {p : List UInt8} {f i : Nat} {out : List (List UInt8)} (h : SpSt p f i out) (hi : i ≤ p.length) (hc : i = p.length ∨ ∃ hi : i < p.length, p[i] = 47) (hr : rightL (cutL p f i) = true) :
    SpSt p (i + 1) (i + 1) (out ++ [cutL p f i]) := by
  have hp := h.parts hi hc
  have ha : out.all rightL = true := by
    rcases h with ⟨_, _, _, _, _, h6⟩ | ⟨_, _, h⟩
    · exact h6
    · exact h
  have hb : (out ++ [cutL p f i]).all rightL = true := by simp [List.all_append, ha, hr]
  rcases hc with e | ⟨hlt, e⟩
  · right
    rw [if_pos e, List.append_nil] at hp
    exact ⟨by omega, hp, hb⟩
  · left
    rw [if_neg (by omega)] at hp
    exact ⟨by omega, Nat.le_refl _, by omega, hp, by simp [cutL], hb⟩
theorem SpSt.bad {p : List UInt8} {f i : Nat} {out : List (List UInt8)} {r : List UInt8} (h : SpSt p f i out) (hi : i ≤ p.length) (hc : i = p.length ∨ ∃ hi : i < p.length, p[i] = 47) (hr : rightL (cutL p f i) = false) (hp : p = 47 :: r) (h0 : r ≠ []) : namesL p = none := by
  have := h.parts hi hc
  subst hp
  rw [List.drop_one, List.tail_cons] at this
  refine names_odd h0 (k := out.length) ?_ ?_
  · rw [this]; simp
  · rw [this]; simp [List.getD, hr]
theorem SpSt.done {p : List UInt8} {f : Nat} {out : List (List UInt8)} {r : List UInt8} (h : SpSt p f (p.length + 1) out) (hp : p = 47 :: r) (h0 : r ≠ []) (hl : p.length ≤ 255) : namesL p = some out := by
  rcases h with ⟨h1, _⟩ | ⟨_, h1, h2⟩
  · omega
  · subst hp
    rw [List.drop_one, List.tail_cons] at h1
    rw [names_all h0 hl (by rw [h1]; exact h2), h1]
theorem SpSt.le {p : List UInt8} {f i : Nat} {out : List (List UInt8)} (h : SpSt p f i out) : i ≤ p.length + 1 ∧ (i ≤ p.length → f ≤ i) := by
  rcases h with ⟨h1, h2, _⟩ | ⟨h1, _⟩ <;> omega

/-! ### a text appended to a slice of texts that the call made -/
def strL (ls : List (List UInt8)) : List Value := ls.map fun p => Value.string (bs p)
theorem strL_snoc (l : List (List UInt8)) (z : List UInt8) : strL (l ++ [z]) = strL l ++ [.string (bs z)] := by simp [strL]
theorem strL_get (l : List (List UInt8)) (k : Nat) (hk : k < l.length) : (strL l)[k]? = some (.string (bs (l.getD k []))) := by
  simp [strL, List.getD, hk]
theorem own_slice {w : World} {base n : Nat} {v : Value} {xs : List Value} {e : TypeId} {sz : Nat} (h : w.ownsRow base e sz v n xs) : ∃ A c, v = .slice A n c ∧ n ≤ c := by
  rcases h.2 with ⟨rfl, rfl⟩ | ⟨g, cap, cur, rfl, _, _, hc, _⟩
  · exact ⟨none, 0, rfl, Nat.le_refl _⟩
  · exact ⟨_, _, rfl, hc⟩
theorem StrsAt.of_own {w : World} {base : Nat} {v : Value} {A : Option Addr} {c : Nat} {l : List (List UInt8)} (h : w.ownsRow base 9 1 v l.length (strL l)) (hv : v = .slice A l.length c) : StrsAt w w.heap.size A l.length l := by
  refine ⟨rfl, fun k hk => ?_⟩
  obtain ⟨g, cap, e, _, hlt⟩ := h.form (by omega)
  subst hv
  have hA : A = some ⟨g, 0, none⟩ := by injection e
  subst hA
  have hcell := h.cells (g := g) rfl _ _ (strL_get l k hk)
  rw [Go.WideShapes.add_plain] at hcell
  exact ⟨g, 0, rfl, hlt, hcell⟩
theorem info9 : (Tryd.prog.info? 9).map (fun i => (i.zero, i.size, i.bytes)) = some (some (.string ByteArray.empty), 1, 16) := by kernel_rfl
/-- 'append(s, z)', for the walk to take. -/
theorem pushS_law {ops : Array Oper} {rest : List Oper} {o : Oper} {a : Act} {Q : Exit → Act → World → Prop} (hgd : o.guard = none) (s x : Operand)
    (ho : o.op = .call { callee := .builtin .append, args := #[s, x], argTypes := #[23, 23] })
    (base : Nat) (W : World) (v : Value) (l : List (List UInt8)) (z : List UInt8) (Z : ByteArray) (hZ : Z = bs z) (hs : a.eval s = v) (hx : a.eval x = .slice (some ⟨W.heap.size, 0, none⟩) 1 1)
    (hown : W.ownsRow base 9 1 v l.length (strL l)) (hl : l.length ≤ 1000000) (hbase : base ≤ W.heap.size)
    (h : ∀ v' w', w'.ownsRow base 9 1 v' (l ++ [z]).length (strL (l ++ [z])) → Below base W w' → wpList Tryd.prog ops Q rest (a.put o.dst v') w') :
    wpList Tryd.prog ops Q (o :: rest) a (W.alloc (.cells #[.string Z] 9)) := by
  subst hZ
  obtain ⟨i0, hi, hz0, hz1, hz2⟩ := info_parts info9
  refine wpList_append_own _ hgd s x 23 ho base 9 i0 _ 1 16 Tryd.underlying23 hi hz0 hz1 hz2 rfl (by decide) v l.length (strL l) hs (hown.alloc _) ⟨W.heap.size, 0, none⟩ 1 1 [.string (bs z)] hx rfl
    (World.news_of_block (heap_alloc_new W _)) (by simp [Value.oneCell']) (by unfold maxLen; omega) (by omega) (by simp; omega) ?_
  intro v' w' hown' hg _
  refine h v' w' ?_ ?_
  · rw [strL_snoc, List.length_append]; exact hown'
  · exact (((Below.refl base W).alloc hbase _).grown hg (by simp; omega) (fun k hk => (hown.lt k hk).1))

theorem names_short {p : List UInt8} (h0 : p ≠ [47]) (h : p.length < 2) : namesL p = none := by
  refine names_noslash (fun r e => ?_)
  subst e
  cases r with
  | nil => exact h0 rfl
  | cons a r => simp only [List.length_cons] at h; omega

set_option maxHeartbeats 4000000 in
theorem rsplit_main (q r : List UInt8) (w : World) (hq : q = 47 :: r) (h0 : r ≠ []) (hp0 : q.length ≤ 255) (h2 : 2 ≤ q.length) : Calls Tryd.prog 10 #[.string (bs q)] w (RetNames w (namesL q)) := by
  have ht : ((bs q).toList == [47]) = false := by rw [ByteArray.toList_eq, bs_data, hq]; simpa using h0
  have hsz : (bs q).size = q.length := rfl
  have h2' : ¬ ((bs q).size : Int) < 2 := by rw [hsz]; omega
  have h3' : ¬ (255 : Int) < ((bs q).size : Int) := by rw [hsz]; omega
  have hz : 0 < (bs q).size := by rw [hsz]; omega
  have hBAD : Hid (∀ f i out, SpSt q f i out → i ≤ q.length → (i = q.length ∨ ∃ hi : i < q.length, q[i] = 47) → rightL (cutL q f i) = false → namesL q = none) := fun f i out h a b d => h.bad a b d hq h0
  have hDONE : Hid (∀ f out, SpSt q f (q.length + 1) out → namesL q = some out) := fun f out h => h.done hq h0 hp0
  have hst0 : Hid (SpSt q 1 1 []) := SpSt.start _ (by omega)
  have hc0 : (((bs q)[0]'hz).toNat : Int) = 47 := by subst hq; rfl
  have HC0 : Hid (((((bs q)[0]'hz).toNat : Int) != 47) = false) := by show _ = _; rw [hc0]; rfl
  have HEX : Hid (∀ f i, (bs q).extract f i = bs (cutL q f i)) := fun f i => bs_extract q f i
  have HAT : Hid (∀ (i : Nat) (hi : i < (bs q).size) (hi' : i < q.length), (bs q)[i]'hi = q[i]'hi') := fun i hi hi' => rfl
  have HSZ := Lib.hid hsz
  clear hc0 hq h0 hsz
  generalize namesL q = o at *
  generalize bs q = P at *
  have hpl : P.size ≤ 255 := by rw [HSZ.out]; omega
  have e0 := HC0.out
  clear hp0 h2
  go_enter Tryd.func10, Tryd.ntmps10
  go_wp2
  clear e0
  go_loopw [4, 5, 6] (fun v vf vi wr => ∃ (out : List (List UInt8)) (f i : Nat), vf = .int .i64 (f : Int) ∧ vi = .int .i64 (i : Int) ∧ i ≤ P.size + 1 ∧ f ≤ i ∧ out.length ≤ i ∧ Hid (SpSt q f i out) ∧ wr.ownsRow w.heap.size 9 1 v out.length (strL out) ∧ Below w.heap.size w wr) (fun _ _ vi _ => P.size + 1 - (intOf vi).toNat)
  case atStart => exact ⟨[], 1, 1, rfl, rfl, by omega, Nat.le_refl _, by simp, hst0, World.ownsRow_nil _ _ _ _, Below.refl _ _⟩
  case round =>
    obtain ⟨out, f, i, rfl, rfl, hi, hf, hol, hst, hown, hb⟩ := hrel
    obtain ⟨A', c', rfl, hc'⟩ := own_slice hown
    have HO := Lib.hid hown
    have HB := Lib.hid hb
    clear hown hb
    by_cases hend : i = P.size + 1
    · have hN : o = some out := hDONE.out f out (by rw [← HSZ.out, ← hend]; exact hst)
      have HN := Lib.hid hN
      have e1 : decide (i ≤ P.size) = false := by simp; omega
      have e1' : ¬ (i : Int) ≤ (P.size : Int) := by omega
      clear hN hend
      go_wp2
      go_ret2
      rw [HN.out]
      exact ⟨A', out.length, c', rfl, HB.out, StrsAt.of_own HO.out rfl, hc'⟩
    · have hle : (i : Int) ≤ (P.size : Int) := by omega
      have hf' : (f : Int) ≤ (i : Int) := by omega
      by_cases hsl : i < P.size ∧ ∀ hi : i < P.size, P[i] ≠ 47
      · obtain ⟨hlt, hne⟩ := hsl
        have hne := hne hlt
        have HST : Hid (SpSt q f (i + 1) out) := hst.out.next (by rw [← HSZ.out]; exact hlt) (by rw [← HAT.out i hlt (by rw [← HSZ.out]; exact hlt)]; exact hne)
        have e2 : ((i : Int) == (P.size : Int)) = false := by rw [beq_eq_false_iff_ne]; omega
        have e3 : ((P[i].toNat : Int) == 47) = false := by
          rw [beq_eq_false_iff_ne]
          intro e
          exact hne (UInt8.toNat_inj.1 (by show P[i].toNat = 47; omega))
        clear hne hend
        go_wp2
        go_roundw
        case rel => exact ⟨out, f, i + 1, rfl, by go_num, by omega, by omega, by omega, HST, HO.out, HB.out⟩
        case measure => simp [intOf]; omega
      · have hor : Hid (i = q.length ∨ ∃ hi : i < q.length, q[i] = 47) := by
          show _ ∨ _
          rcases Nat.lt_or_ge i P.size with hlt | hge
          · right
            refine ⟨by rw [← HSZ.out]; exact hlt, ?_⟩
            rw [← HAT.out i hlt (by rw [← HSZ.out]; exact hlt)]
            apply Classical.byContradiction
            intro hne
            exact hsl ⟨hlt, fun _ => hne⟩
          · left
            rw [← HSZ.out]; omega
        have hiq : i ≤ q.length := by rw [← HSZ.out]; omega
        have hex := HEX.out f i
        have htest : (i = P.size) ∨ (∃ hlt : i < P.size, ((P[i].toNat : Int) == 47) = true) := by
          rcases Nat.lt_or_ge i P.size with hlt | hge
          · right
            refine ⟨hlt, ?_⟩
            have : P[i] = 47 := Classical.byContradiction fun hne => hsl ⟨hlt, fun _ => hne⟩
            rw [this]; rfl
          · left; omega
        have HN : Hid (rightL (cutL q f i) = false → o = none) := fun h => hBAD.out f i out hst.out hiq hor.out h
        have HST : Hid (rightL (cutL q f i) = true → SpSt q (i + 1) (i + 1) (out ++ [cutL q f i])) := fun h => hst.out.push hiq hor.out h
        have hRt : ∀ W, Calls Tryd.prog 12 #[.string (bs (cutL q f i))] W fun e w' => e = .returned (.bool (rightL (cutL q f i))) ∧ w' = W := fun W => rright_any (bs (cutL q f i)) W (by
          show (cutL q f i).length ≤ _
          have := cutL_len q f i
          rw [← HSZ.out] at this
          omega)
        have HRt := Lib.hid hRt
        clear hRt hsl hor hiq hBAD hDONE
        have HX := Lib.hid hex
        clear hex
        generalize cutL q f i = z at *
        have hfs : (f : Int) ≤ (P.size : Int) := by omega
        cases hR : rightL z with
        | false =>
          have HN := Lib.hid (HN.out hR)
          rw [hR] at HRt
          clear hR
          rcases htest with h | ⟨hlt, h⟩
          · have e2 : ((i : Int) == (P.size : Int)) = true := by rw [beq_iff_eq]; omega
            clear h
            go_wp2_with fail
            rw [HX.out]
            refine (HRt.out _).mono ?_
            rintro e w2 ⟨rfl, rfl⟩
            go_wp2
            go_ret2
            rw [HN.out]
            exact ⟨none, 0, 0, rfl, HB.out, StrsAt.nil _ _ _, Nat.le_refl _⟩
          · have e2 : ((i : Int) == (P.size : Int)) = false := by rw [beq_eq_false_iff_ne]; omega
            go_wp2_with fail
            rw [HX.out]
            refine (HRt.out _).mono ?_
            rintro e w2 ⟨rfl, rfl⟩
            go_wp2
            go_ret2
            rw [HN.out]
            exact ⟨none, 0, 0, rfl, HB.out, StrsAt.nil _ _ _, Nat.le_refl _⟩
        | true =>
          have HST := Lib.hid (HST.out hR)
          rw [hR] at HRt
          clear hR
          rcases htest with h | ⟨hlt, h⟩
          · have e2 : ((i : Int) == (P.size : Int)) = true := by rw [beq_iff_eq]; omega
            clear h
            go_wp2_with fail
            rw [HX.out]
            refine (HRt.out _).mono ?_
            rintro e w2 ⟨rfl, rfl⟩
            go_wp2_with (at_builtin; refine pushS_law rfl (.tmp 44) (.tmp 49) rfl w.heap.size _ (.slice A' out.length c') out z _ HX.out rfl rfl HO.out (by omega) HB.out.size ?_; intro v' w3 hown3 hb3)
            go_roundw
            case rel => exact ⟨out ++ [z], i + 1, i + 1, by go_num, by go_num, by omega, Nat.le_refl _, by simp; omega, HST, hown3, HB.out.trans hb3⟩
            case measure => simp [intOf]; omega
          · have e2 : ((i : Int) == (P.size : Int)) = false := by rw [beq_eq_false_iff_ne]; omega
            go_wp2_with fail
            rw [HX.out]
            refine (HRt.out _).mono ?_
            rintro e w2 ⟨rfl, rfl⟩
            go_wp2_with (at_builtin; refine pushS_law rfl (.tmp 44) (.tmp 49) rfl w.heap.size _ (.slice A' out.length c') out z _ HX.out rfl rfl HO.out (by omega) HB.out.size ?_; intro v' w3 hown3 hb3)
            go_roundw
            case rel => exact ⟨out ++ [z], i + 1, i + 1, by go_num, by go_num, by omega, Nat.le_refl _, by simp; omega, HST, hown3, HB.out.trans hb3⟩
            case measure => simp [intOf]; omega

set_option maxHeartbeats 4000000 in
theorem rsplit_any (p : List UInt8) (w : World) (_hp : p.length ≤ 140737488355328) : Calls Tryd.prog 10 #[.string (bs p)] w (RetNames w (namesL p)) := by
  have hsz : (bs p).size = p.length := rfl
  by_cases h0 : p = [47]
  · subst h0
    have ht : (bs [47]).toList = [47] := by rw [ByteArray.toList_eq]; rfl
    go_enter Tryd.func10, Tryd.ntmps10
    go_wp2
    go_ret2
    exact ⟨none, 0, 0, rfl, Below.refl _ _, StrsAt.nil _ _ _, Nat.le_refl _⟩
  have ht : ((bs p).toList == [47]) = false := by rw [ByteArray.toList_eq, bs_data]; simpa using h0
  by_cases h2 : p.length < 2
  · have HN := Lib.hid (names_short h0 h2)
    have h2' : ((bs p).size : Int) < 2 := by rw [hsz]; omega
    clear hsz h0 h2
    generalize namesL p = o at *
    generalize bs p = P at *
    go_enter Tryd.func10, Tryd.ntmps10
    go_wp2
    go_ret2
    rw [HN.out]
    exact ⟨none, 0, 0, rfl, Below.refl _ _, StrsAt.nil _ _ _, Nat.le_refl _⟩
  have h2' : ¬ ((bs p).size : Int) < 2 := by rw [hsz]; omega
  by_cases h3 : 255 < p.length
  · have HN := Lib.hid (names_long h3)
    have h3' : (255 : Int) < ((bs p).size : Int) := by rw [hsz]; omega
    clear hsz h0 h2 h3
    generalize namesL p = o at *
    generalize bs p = P at *
    go_enter Tryd.func10, Tryd.ntmps10
    go_wp2
    go_ret2
    rw [HN.out]
    exact ⟨none, 0, 0, rfl, Below.refl _ _, StrsAt.nil _ _ _, Nat.le_refl _⟩
  have h3' : ¬ (255 : Int) < ((bs p).size : Int) := by rw [hsz]; omega
  obtain ⟨c, r, rfl⟩ : ∃ c r, p = c :: r := by
    cases p with
    | nil => simp at h2
    | cons c r => exact ⟨c, r, rfl⟩
  by_cases hc : c = 47
  · subst hc
    have h0' : r ≠ [] := by simpa using h0
    exact rsplit_main _ r w rfl h0' (by omega) (by omega)
  · have HN := Lib.hid (names_noslash (p := c :: r) (fun r' e => hc (by simpa using (List.cons.inj e).1)))
    have hc0 : (((bs (c :: r))[0]'(by rw [hsz]; simp)).toNat : Int) ≠ 47 := by
      show ((c.toNat : Nat) : Int) ≠ 47
      intro e
      exact hc (UInt8.toNat_inj.1 (by show c.toNat = 47; omega))
    have hz : 0 < (bs (c :: r)).size := by rw [hsz]; simp
    have e0 : (((((bs (c :: r))[0]'hz).toNat : Int)) != 47) = true := bne_iff_ne.2 hc0
    clear hsz h0 h2 h3 hc0
    generalize namesL (c :: r) = o at *
    generalize bs (c :: r) = P at *
    go_enter Tryd.func10, Tryd.ntmps10
    go_wp2
    go_ret2
    rw [HN.out]
    exact ⟨none, 0, 0, rfl, Below.refl _ _, StrsAt.nil _ _ _, Nat.le_refl _⟩
end Go.Proofs.YtcijpefddicmiaaDoor
