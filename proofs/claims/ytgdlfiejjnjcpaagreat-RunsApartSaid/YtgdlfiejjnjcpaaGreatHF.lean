/-
  WALKS: load, on a deal with a crown: the spans and the run blocks that a card names. Condition: a deal on a calm slab.
-/
import Derived.Test.YtgdlfiejjnjcpaaGreatHD
import Derived.Test.YtgdlfiejjnjcpaaGreatHE
import Derived.Test.YtgdlfiejjnjcpaaGreatBG
set_option linter.unusedVariables false
set_option linter.unusedSimpArgs false
set_option maxRecDepth 100000
set_option maxHeartbeats 8000000
namespace Go.Proofs.YtgdlfiejjnjcpaaGreat.Dl
open Go.RowKit
open Mk
open Sl (Turns)
open Kr (crv rightK kf kb kc KBox cells3 I64 inB)

/-- a card of format Two that may be. -/
def isTwo (x : Cd) : Bool := rightC x && decide (x.fm = 2)
theorem isTwo_t {x : Cd} (h : isTwo x = true) : rightC x = true ∧ x.fm = 2 ∧ x.rs.length ≤ 3 ∧ (x.ov = 0 ∨ 3 ≤ x.rs.length) ∧ (0 ≤ x.ov ∧ x.ov ≤ 65535) ∧ rightL none x.rs = true ∧ x.ps = [] := by
  unfold isTwo at h
  simp only [Bool.and_eq_true, decide_eq_true_eq] at h
  obtain ⟨h1, h2⟩ := h
  refine ⟨h1, h2, ?_⟩
  unfold rightC at h1
  rcases Bool.or_eq_true_iff.1 h1 with hz | h1
  · have := isZ_iff.1 hz; rw [this] at h2; cases h2
  · have h3 := (Bool.and_eq_true_iff.1 h1).2
    rcases Bool.or_eq_true_iff.1 h3 with h4 | h4
    · have := (oneB_iff.1 h4).1; omega
    · obtain ⟨_, _, e1, e2, e3, e4, e5, _⟩ := twoB_iff.1 h4
      exact ⟨e1, e2, blkB_iff.1 e3, e4, e5⟩
/-- the answer of load, of a card that may be. -/
def RetLd (w : World) (r : Option (List Sp × List Int)) (e : Ending) (w' : World) : Prop :=
  match r with
  | some (l, bl) => ∃ v1 v2, e = .returned (.tuple #[v1, v2, .int .i64 0]) ∧ w'.ownsRow w.heap.size 85 3 v1 l.length (spsCells l) ∧ w'.ownsRow w.heap.size 3 1 v2 bl.length (Lg.ints bl) ∧ Below w.heap.size w w'
  | none => e = .returned (.tuple #[.slice none 0 0, .slice none 0 0, .int .i64 15]) ∧ Below w.heap.size w w'
/-- 'append(s, x)' of an int, for the walk to take; the world grows at the row alone. -/
theorem pushT_law {ops : Array Oper} {rest : List Oper} {o : Oper} {a : Act} {Q : Exit → Act → World → Prop} (hgd : o.guard = none) (s x : Operand)
    (ho : o.op = .call { callee := .builtin .append, args := #[s, x], argTypes := #[27, 27] })
    (base : Nat) (W : World) (v : Value) (l : List Int) (z : Int) (hs : a.eval s = v) (hx : a.eval x = .slice (some ⟨W.heap.size, 0, none⟩) 1 1)
    (hown : W.ownsRow base 3 1 v l.length (Lg.ints l)) (hl : l.length ≤ 1000000) (hbase : base ≤ W.heap.size)
    (h : ∀ v' w', w'.ownsRow base 3 1 v' (l ++ [z]).length (Lg.ints (l ++ [z])) → (W.alloc (.cells #[.int .i64 z] 3)).ownsRow base 3 1 v l.length (Lg.ints l) → (W.alloc (.cells #[.int .i64 z] 3)).grownBy w' v.ownBlock → wpList Tryz.prog ops Q rest (a.put o.dst v') w') :
    wpList Tryz.prog ops Q (o :: rest) a (W.alloc (.cells #[.int .i64 z] 3)) := by
  obtain ⟨i0, hi, hz0, hz1, hz2⟩ := info_parts Tryz.info3
  refine wpList_append_own _ hgd s x 27 ho base 3 i0 _ 1 8 Tryz.underlying27 hi hz0 hz1 hz2 rfl (by decide) v l.length (Lg.ints l) hs (hown.alloc _) ⟨W.heap.size, 0, none⟩ 1 1 [.int .i64 z] hx rfl
    (World.news_of_block (heap_alloc_new W _)) (Lg.ints_one [z]) (by unfold maxLen; omega) (by omega) (by simp; omega) ?_
  intro v' w' hown' hg _
  refine h v' w' ?_ (hown.alloc _) hg
  rw [Lg.ints_snoc, List.length_append]; exact hown'
theorem keep_blk {w w' : World} {base' e e' n' sz' g : Nat} {cs : Array Value} {v' : Value} {xs' : List Value} (h : w.heap[g]? = some (.cells cs e (0, 0))) (h2 : w.ownsRow base' e' sz' v' n' xs') (hg : w.grownBy w' v'.ownBlock) (he : e ≠ e') : w'.heap[g]? = some (.cells cs e (0, 0)) := by
  refine (hg.block g (Array.getElem?_eq_some_iff.1 h).1 (fun e1 => ?_)).trans h
  obtain ⟨c2, q2⟩ := row_tag h2 e1.symm
  rw [h] at q2
  injection q2 with q2
  injection q2 with _ q2
  exact he q2
def lenOf : Value → Nat
  | .slice _ n _ => n
  | _ => 0
theorem keep_row {w w' : World} {base base' e e' n n' sz sz' : Nat} {v v' : Value} {xs xs' : List Value} (h : w.ownsRow base e sz v n xs) (h2 : w.ownsRow base' e' sz' v' n' xs') (hg : w.grownBy w' v'.ownBlock) (he : e ≠ e') : w'.ownsRow base e sz v n xs := by
  refine h.kept hg ?_
  cases hv : v.ownBlock with
  | none => exact .inl rfl
  | some x =>
    refine .inr fun e1 => ?_
    obtain ⟨c1, q1⟩ := row_tag h hv
    obtain ⟨c2, q2⟩ := row_tag h2 e1.symm
    rw [q1] at q2
    injection q2 with q2
    injection q2 with _ q2
    exact he q2
section
variable {w0 w : World} {B d q p pd pm k c : Nat} {F : Bxs} {N : Nat} {D V : List ByteArray} {b : Nat} {m : ByteArray}
theorem crown_dk (h : Dk w0 w B d q p pd pm k c F N D V) (hc : Crd V b m) :
    Calls Tryz.prog 35 #[.pointer (some ⟨d, 0, none⟩)] w fun e w' => e = .returned (.tuple #[crv (crF V) (b : Int) (crC V), .int .i64 0]) ∧ Below w.heap.size w w' := by
  obtain ⟨v, dv⟩ := h.ex
  have := crown_dv B d q p pd pm k c D V v w dv
  unfold RetCr at this
  rwa [cr_ok hc.ok, hc.cb] at this
theorem load_bad (h : Dk w0 w B d q p pd pm k c F N D V) (hc : Crd V b m) (x : Cd) (A : Option Addr) (n kp : Nat) (A' : Option Addr) (n' k' Bc : Nat) (hx : CdAt w Bc (cdv x A n kp A' n' k') x) (hBc : Bc ≤ w.heap.size) (ho : isTwo x = false) :
    Calls Tryz.prog 44 #[.pointer (some ⟨d, 0, none⟩), cdv x A n kp A' n' k'] w fun e w' => e = .returned (.tuple #[.slice none 0 0, .slice none 0 0, .int .i64 1]) ∧ Below w.heap.size w w' := by
  have HB1 : Hid (Below w.heap.size w (w.alloc (.cells (cells9 x A n kp A' n' k') 30))) := (Below.refl _ _).alloc (Nat.le_refl _) _
  have HC1 : Hid (CdRow (w.alloc (.cells (cells9 x A n kp A' n' k') 30)) w.heap.size x A n kp A' n' k') := CdRow.new _ _ _ _ _ _ _ _
  have HR := Lib.hid (fun W (hW : Below w.heap.size w W) => rightc_any _ x Bc _ W rfl (hx.below hW hBc) (Nat.le_trans hBc hW.size))
  unfold isTwo at ho
  cases hr : rightC x with
  | false =>
    rw [hr] at HR
    clear hx hr ho h hc
    unfold cells9 at *
    obtain ⟨e0, e1, e2, e3, e4, e5, e6, e7, e8⟩ := HC1.out.cells
    go_enter Tryz.func44, Tryz.ntmps44
    go_wp2_with (go_at_call 73; refine (HR.out _ HB1.out).mono ?_; rintro e w2 ⟨rfl, b2⟩; have HB2 := Lib.hid (HB1.out.trans (b2.mono HB1.out.size)); clear b2)
    refine bodyPost_ret (v := .tuple #[.slice none 0 0, .slice none 0 0, .int .i64 1]) (by simp [results, Tryz.results44, go_sem]) rfl ?_
    exact ⟨rfl, HB2.out⟩
  | true =>
    rw [hr] at HR ho
    have hf : (x.fm != 2) = true := by
      rw [Bool.true_and, decide_eq_false_iff_not] at ho
      exact bne_iff_ne.2 ho
    clear hx hr ho h hc
    unfold cells9 at *
    obtain ⟨e0, e1, e2, e3, e4, e5, e6, e7, e8⟩ := HC1.out.cells
    go_enter Tryz.func44, Tryz.ntmps44
    go_wp2_with (go_at_call 73; refine (HR.out _ HB1.out).mono ?_; rintro e w2 ⟨rfl, b2⟩; have HB2 := Lib.hid (HB1.out.trans (b2.mono HB1.out.size)); have HC2 := Lib.hid (HC1.out.below b2 HC1.out.lt); clear b2 e0 e1 e2 e3 e4 e5 e6 e7 e8; obtain ⟨e0, -⟩ := HC2.out.cells)
    refine bodyPost_ret (v := .tuple #[.slice none 0 0, .slice none 0 0, .int .i64 1]) (by simp [results, Tryz.results44, go_sem]) rfl ?_
    exact ⟨rfl, HB2.out⟩
theorem grp_le {s : ByteArray} (h : blkOk s = true) : (grpB s).length ≤ 20 := by
  unfold blkOk at h
  have h1 := headOk_t.1 (Bool.and_eq_true_iff.1 h).1
  unfold grpB
  rw [grpV_len]
  omega
theorem ld_none {V : List ByteArray} {b : Int} {rs : List Sp} {ov : Int} (h : ldGo V b 400 ov [] rs = none) : ldR V b rs ov = none := by unfold ldR; rw [h]
theorem ld_some {V : List ByteArray} {b : Int} {rs : List Sp} {ov : Int} {r : List Sp × List Int} (h : ldGo V b 400 ov [] rs = some r) : ldR V b rs ov = if rightS b r.1 = true then some r else none := by unfold ldR; rw [h]
theorem load_two (h : Dk w0 w B d q p pd pm k c F N D V) (hc : Crd V b m) (x : Cd) (A : Option Addr) (n kp : Nat) (A' : Option Addr) (n' k' Bc : Nat) (hx : CdAt w Bc (cdv x A n kp A' n' k') x) (hBc : Bc ≤ w.heap.size) (ho : isTwo x = true) :
    Calls Tryz.prog 44 #[.pointer (some ⟨d, 0, none⟩), cdv x A n kp A' n' k'] w (RetLd w (ldR V b x.rs x.ov)) := by
  obtain ⟨o1, o2, o3, o4, o5, o6, o7⟩ := isTwo_t ho
  have hrs : SpsAt w Bc A' n' x.rs := by
    obtain ⟨Q, m1, l, Q', m', l', e, i1, s1, _⟩ := hx
    have e7 : Value.slice A' n' k' = Value.slice Q' m' l' := congrArg (fun v => match v with | .agg a => a.getD 7 undef | _ => undef) e
    injection e7 with q1 q2 q3
    rw [q1, q2]
    exact s1
  have HB1 : Hid (Below w.heap.size w (w.alloc (.cells (cells9 x A n kp A' n' k') 30))) := (Below.refl _ _).alloc (Nat.le_refl _) _
  have HC1 : Hid (CdRow (w.alloc (.cells (cells9 x A n kp A' n' k') 30)) w.heap.size x A n kp A' n' k') := CdRow.new _ _ _ _ _ _ _ _
  have HR := Lib.hid (fun W (hW : Below w.heap.size w W) => rightc_any _ x Bc _ W rfl (hx.below hW hBc) (Nat.le_trans hBc hW.size))
  rw [o1] at HR
  have hk : rightK (crF V) (b : Int) (crC V) = true := by have := (cr_b hc.ok).1; rwa [hc.cb] at this
  have hbl : b ≤ N := by have := (cr_b hc.ok).2.2.2; rw [hc.cb, h.lenV] at this; omega
  have hb2 := hc.b2
  have HCR := Lib.hid (fun W (hW : Below w.heap.size w W) => crown_dk (h.below hW) hc)
  have HCL := Lib.hid (fun W (hW : Below w.heap.size w W) => cloneS_any A' n' k' Bc x.rs W (hrs.below hW hBc) (Nat.le_trans hBc hW.size) (by rw [← hrs.len]; omega))
  unfold RetSpO at HCL
  have HAR := Lib.hid (fun A n c B l W h1 h2 h3 => areright_any (crF V) b (crC V) A n c B l W hk h1 h2 h3)
  have HOW := Lib.hid (fun i W => Kr.owned_any (crF V) b (crC V) i W)
  have HOP := Lib.hid (fun i (hi : i ≠ 0) => own_in (f := crF V) (b := b) (c := crC V) (x := i) hk hi)
  have HRB := Lib.hid (fun W (hW : Below w.heap.size w W) i (hi : 51 ≤ i ∧ i < (b : Int)) => readblock_any (h.below hW) i (by omega))
  unfold RetRb at HRB
  have HNX := Lib.hid (fun i (hi : 51 ≤ i ∧ i < (b : Int)) => (rvs_fit (h.sized (i := i.toNat) (by omega)) 66))
  have HGF := Lib.hid (fun i (hi : 51 ≤ i ∧ i < (b : Int)) => (grp_fit (h.sized (i := i.toNat) (by omega))))
  have HSM := Lib.hid some_any
  have hf : (x.fm != 2) = false := by rw [o2]; rfl
  have HO5 := Lib.hid o5
  have HO3 := Lib.hid o3
  have HU0 : Hid (∀ s ∈ x.rs, spU s) := fun s hs => spU_in (right_mem _ none o6 s hs)
  have HB400 := Lib.hid hb2
  have HLN := Lib.hid (fun h => ld_none (V := V) (b := b) (rs := x.rs) (ov := x.ov) h)
  have HLS := Lib.hid (fun r h => ld_some (V := V) (b := b) (rs := x.rs) (ov := x.ov) (r := r) h)
  generalize hRR : ldR V b x.rs x.ov = RR at *
  obtain ⟨RG, hRG⟩ : ∃ RG, ldGo V b 400 x.ov [] x.rs = RG := ⟨_, rfl⟩
  rw [hRG] at HLN HLS
  have HRG := Lib.hid hRG
  clear hx hrs hk h hc ho o1 o2 o3 o4 o5 o6 o7 hbl hRR hRG hb2
  unfold crv at *
  generalize crF V = f at *
  generalize crC V = u at *
  unfold cells9 at *
  obtain ⟨e0, e1, e2, e3, e4, e5, e6, e7, e8⟩ := HC1.out.cells
  have HN3 := Lib.hid (KBox.new)
  unfold cells3 at HN3
  go_enter Tryz.func44, Tryz.ntmps44
  go_wp2_with (first
    | (go_at_call 73; refine (HR.out _ HB1.out).mono ?_; rintro e w2 ⟨rfl, b2⟩; have HB2 := Lib.hid (HB1.out.trans (b2.mono HB1.out.size)); have HC2 := Lib.hid (HC1.out.below b2 HC1.out.lt); clear b2 e0 e1 e2 e3 e4 e5 e6 e7 e8; obtain ⟨e0, -⟩ := HC2.out.cells)
    | (go_at_call 35; refine (HCR.out _ HB2.out).mono ?_; rintro e w3 ⟨rfl, b3⟩; clear e0
       have HB3 := Lib.hid ((HB2.out.trans (b3.mono HB2.out.size)).alloc (HB2.out.trans (b3.mono HB2.out.size)).size (.cells #[.int .i64 f, .int .i64 b, .int .i64 u] 62))
       have HC3 := Lib.hid ((HC2.out.below b3 HC2.out.lt).below ((Below.refl w3.heap.size w3).alloc (Nat.le_refl _) (.cells #[.int .i64 f, .int .i64 b, .int .i64 u] 62)) (HC2.out.below b3 HC2.out.lt).lt)
       have HK3 := Lib.hid (HN3.out w3 f b u)
       obtain ⟨e0, e1, e2, e3, e4, e5, e6, e7, e8⟩ := HC3.out.cells
       clear b3)
    | (go_at_call 74; refine (HCL.out _ HB3.out).mono ?_; rintro e w4 ⟨v4, rfl, ow4, b4⟩
       clear e0 e1 e2 e3 e4 e5 e6 e7 e8
       have HB4 := Lib.hid (HB3.out.trans (b4.mono HB3.out.size))
       have HC4 := Lib.hid (HC3.out.below b4 HC3.out.lt)
       have HK4 := Lib.hid (HK3.out.below b4 HK3.out.lt)
       have HW4 := Lib.hid (own_base ow4 HB3.out.size)
       obtain ⟨e0, e1, e2, e3, e4, e5, e6, e7, e8⟩ := HC4.out.cells
       clear b4 ow4))
  clear e0 e1 e2 e3 e4 e5 e6 e7 e8
  go_loopw [9, 10, 11, 12, 13, 14] (fun lv bv nx _ _ _ wr => ∃ (fu : Nat) (bl : List Int) (l : List Sp) (y : Int), nx = .int .i64 y ∧ Hid (fu + bl.length = 400) ∧ Hid (ldGo V b fu y bl l = RG) ∧ Hid (bl.Nodup ∧ ∀ z ∈ bl, 51 ≤ z ∧ z < (b : Int)) ∧ Hid (l.length ≤ 3 + 20 * bl.length) ∧ Hid (∀ s ∈ l, spU s) ∧ Hid (wr.ownsRow w.heap.size 85 3 lv l.length (spsCells l)) ∧ Hid (wr.ownsRow w.heap.size 3 1 bv bl.length (Lg.ints bl)) ∧ Hid (KBox wr w3.heap.size f b u) ∧ Hid (Below w.heap.size w wr) ∧ Hid (0 ≤ y ∧ y ≤ 65535))
    (fun _ bv _ _ _ _ _ => 400 - (lenOf bv))
  case atStart => exact ⟨400, [], x.rs, x.ov, rfl, rfl, HRG.out, ⟨List.nodup_nil, by simp⟩, by show _ ≤ _; simp; exact HO3.out, HU0.out, HW4.out, World.ownsRow_nil _ _ _ _, HK4.out, HB4.out, HO5.out⟩
  case round =>
    obtain ⟨fu, bl, l, y, rfl, h1, h2, h3, h4, h5, h6, h7, h8, h9, h10⟩ := hrel
    have hb2 := HB400.out
    have hbl49 : bl.length ≤ 349 := by
      have := nodup_bd (b - 51) 51 bl h3.out.1 (fun z hz => by have := h3.out.2 z hz; omega)
      omega
    have hll : l.length ≤ 7000 := by have := h4.out; omega
    have hsz := h9.out.size
    obtain ⟨A6, c6, rfl, hc6⟩ := own_sps h6.out
    obtain ⟨A7, c7, rfl, hc7⟩ := Lg.own_slice h7.out
    by_cases hy0 : y = 0
    · subst hy0
      have e1 := h2.out
      rw [ldGo_zero] at e1
      have HRS := Lib.hid (HLS.out (l, bl) e1.symm)
      have hsp := SpsAt.of_own h6.out rfl (fun s hs => small_fit (spU_small (h5.out s hs)))
      have HA1 := Lib.hid (HAR.out A6 l.length c6 wr.heap.size l wr hsp (Nat.le_refl _) (by omega))
      obtain ⟨y0, y1, y2⟩ := h8.out.row
      clear e1 hsp h2 HLN HLS
      generalize hnl : l.length = nl at *
      have HNL := Lib.hid hnl
      generalize hnb : bl.length = nb at *
      have HNB := Lib.hid hnb
      clear hnl hnb
      cases hrs : rightS b l with
      | true =>
        rw [hrs] at HA1
        have HR2 : Hid (RR = some (l, bl)) := by show _ = _; rw [HRS.out, hrs, if_pos rfl]
        clear hrs HRS
        go_wp2_with (first
          | (go_at_call 34; refine (HSM.out _ _).mono ?_; rintro e w5 ⟨rfl, rfl⟩)
          | (go_at_call 77; refine HA1.out.mono ?_; rintro e w6 ⟨rfl, b6⟩; have HB6 := Lib.hid b6; clear b6))
        refine bodyPost_ret (v := .tuple #[.slice A6 nl c6, .slice A7 nb c7, .int .i64 0]) (by simp [results, Tryz.results44, go_sem]) rfl ?_
        rw [HR2.out]
        show ∃ v1 v2, _
        refine ⟨_, _, rfl, ?_, ?_, h9.out.trans (HB6.out.mono h9.out.size)⟩
        · rw [HNL.out]; exact own_below h6.out HB6.out (Nat.le_refl _)
        · rw [HNB.out]; exact own_below h7.out HB6.out (Nat.le_refl _)
      | false =>
        rw [hrs] at HA1
        have HR2 : Hid (RR = none) := by show _ = _; rw [HRS.out, hrs]; rfl
        clear hrs HRS
        go_wp2_with (first
          | (go_at_call 34; refine (HSM.out _ _).mono ?_; rintro e w5 ⟨rfl, rfl⟩)
          | (go_at_call 77; refine HA1.out.mono ?_; rintro e w6 ⟨rfl, b6⟩; have HB6 := Lib.hid b6; clear b6))
        refine bodyPost_ret (v := .tuple #[.slice none 0 0, .slice none 0 0, .int .i64 15]) (by simp [results, Tryz.results44, go_sem]) rfl ?_
        rw [HR2.out]
        exact ⟨rfl, h9.out.trans (HB6.out.mono h9.out.size)⟩
    · have hy1 : (y != 0) = true := bne_iff_ne.2 hy0
      obtain ⟨y0, y1, y2⟩ := h8.out.row
      have HO1 := Lib.hid (HOW.out y wr)
      rw [HOP.out y hy0] at HO1
      have HBAD : Hid (¬ ((51 ≤ y ∧ y < (b : Int)) ∧ bl.contains y = false ∧ blkOk (bA V y) = true) → RR = none) := fun hn => HLN.out (by rw [← h2.out]; exact ldGo_bad hy0 hn)
      by_cases hin : 51 ≤ y ∧ y < (b : Int)
      · rw [decide_eq_true hin] at HO1
        have hIB : IntsAt wr wr.heap.size A7 bl.length bl := IntsAt.of_own h7.out rfl (fun z hz => by have := h3.out.2 z hz; unfold Fit; omega)
        have HCT := Lib.hid (fun W (hW : Below wr.heap.size wr W) => Lg.contains_any A7 bl.length c7 wr.heap.size bl y W (hIB.below hW (Nat.le_refl _)) (by omega))
        cases hct : bl.contains y with
        | true =>
          rw [hct] at HCT
          have HR2 := Lib.hid (HBAD.out (fun hn => by rw [hct] at hn; exact absurd hn.2.1 (by decide)))
          clear hct HBAD hin hIB HLN HLS
          generalize hnl : l.length = nl at *
          generalize hnb : bl.length = nb at *
          go_wp2_with (first
            | (go_at_call 34; refine (HSM.out _ _).mono ?_; rintro e w5 ⟨rfl, rfl⟩)
            | (go_at_call 46; refine HO1.out.mono ?_; rintro e w6 ⟨rfl, b6⟩; have HB6 := Lib.hid b6; clear b6 y0 y1 y2)
            | (go_at_call 75; refine (HCT.out _ HB6.out).mono ?_; rintro e w7 ⟨rfl, rfl⟩))
          refine bodyPost_ret (v := .tuple #[.slice none 0 0, .slice none 0 0, .int .i64 15]) (by simp [results, Tryz.results44, go_sem]) rfl ?_
          rw [HR2.out]
          exact ⟨rfl, h9.out.trans (HB6.out.mono h9.out.size)⟩
        | false =>
          rw [hct] at HCT
          obtain ⟨fu, rfl⟩ : ∃ g, fu = g + 1 := ⟨fu - 1, by have := h1.out; omega⟩
          have hyn : y ∉ bl := fun hm => by rw [List.contains_iff_mem.2 hm] at hct; cases hct
          have HND : Hid ((bl ++ [y]).Nodup ∧ ∀ z ∈ bl ++ [y], 51 ≤ z ∧ z < (b : Int)) := ⟨by rw [List.nodup_append]; exact ⟨h3.out.1, by simp, fun x hx z hz => by rw [List.mem_singleton] at hz; subst hz; exact fun e => hyn (e ▸ hx)⟩, fun z hz => by
            rcases List.mem_append.1 hz with hz | hz
            · exact h3.out.2 z hz
            · rw [List.mem_singleton] at hz; subst hz; exact hin⟩
          have HRBY := Lib.hid (fun W hW => HRB.out W hW y hin)
          have HNY := Lib.hid (HNX.out y hin)
          have HGY := Lib.hid (HGF.out y hin)
          have HSTP := Lib.hid (fun hk => ldGo_step (V := V) (b := b) (f := fu) (bl := bl) (l := l) hy0 ⟨hin, hct, hk⟩)
          have HBAD2 : Hid (blkOk (bA V y) = false → RR = none) := fun hk => HBAD.out (fun hn => by rw [hk] at hn; exact absurd hn.2.2 (by decide))
          have HFU := Lib.hid h1.out
          have HL2 := Lib.hid h2.out
          change Hid (∀ W hW, _) at HRBY
          clear h1 h2 h3 hct HBAD hin hIB hyn hy0 HLN HLS HRB HNX HGF HOW HOP HAR
          change Hid (0 ≤ nxB (bA V y) ∧ nxB (bA V y) ≤ 65535) at HNY
          change Hid (∀ x ∈ grpB (bA V y), spU x) at HGY
          generalize bA V y = sb at *
          generalize nxB sb = ny at *
          cases hbk : blkOk sb with
          | false =>
            have HR2 := Lib.hid (HBAD2.out hbk)
            rw [hbk] at HRBY
            simp only [Bool.false_eq_true, if_false] at HRBY
            clear hbk HBAD2 HSTP HL2
            go_wp2_with (first
              | (go_at_call 34; refine (HSM.out _ _).mono ?_; rintro e w5 ⟨rfl, rfl⟩)
              | (go_at_call 46; refine HO1.out.mono ?_; rintro e w6 ⟨rfl, b6⟩; have HB6 := Lib.hid b6; have HO7 := Lib.hid (own_below h7.out b6 (Nat.le_refl _)); clear b6 y0 y1 y2)
              | (go_at_call 75; refine (HCT.out _ HB6.out).mono ?_; rintro e w7 ⟨rfl, rfl⟩)
              | (at_builtin
                 refine pushT_law rfl (.tmp 47) (.tmp 49) rfl w.heap.size w6 (.slice A7 bl.length c7) bl y rfl rfl HO7.out (by omega) (Nat.le_trans hsz HB6.out.size) ?_
                 intro v8 w8 hown8 hown7 hg8
                 have hb6 := h9.out.trans (HB6.out.mono h9.out.size)
                 have HB8 := Lib.hid ((hb6.alloc hb6.size (.cells #[.int .i64 y] 3)).grown hg8 (by simp; have := hb6.size; omega) (fun k hk => (hown7.lt k hk).1))
                 obtain ⟨A8, c8, rfl, -⟩ := Lg.own_slice hown8
                 clear hown8 hown7 hg8 hb6)
              | (go_at_call 76; refine (HRBY.out _ HB8.out).mono ?_; rintro e w9 ⟨rfl, b9⟩; have HB9 := Lib.hid (HB8.out.trans (b9.mono HB8.out.size)); clear b9))
            refine bodyPost_ret (v := .tuple #[.slice none 0 0, .slice none 0 0, .int .i64 15]) (by simp [results, Tryz.results44, go_sem]) rfl ?_
            rw [HR2.out]
            exact ⟨rfl, HB9.out⟩
          | true =>
            rw [hbk] at HRBY
            simp only [if_pos] at HRBY
            have HST2 := Lib.hid ((HSTP.out hbk).symm.trans HL2.out)
            have hgl := grp_le hbk
            clear hbk HBAD2 HSTP HL2
            go_wp2_with (first
              | (go_at_call 34; refine (HSM.out _ _).mono ?_; rintro e w5 ⟨rfl, rfl⟩)
              | (go_at_call 46; refine HO1.out.mono ?_; rintro e w6 ⟨rfl, b6⟩; have HB6 := Lib.hid b6; have HO7 := Lib.hid (own_below h7.out b6 (Nat.le_refl _)); have HO6 := Lib.hid (own_below h6.out b6 (Nat.le_refl _)); have HK6 := Lib.hid (h8.out.below b6 h8.out.lt); clear b6 y0 y1 y2)
              | (go_at_call 75; refine (HCT.out _ HB6.out).mono ?_; rintro e w7 ⟨rfl, rfl⟩)
              | (at_builtin
                 refine pushT_law rfl (.tmp 47) (.tmp 49) rfl w.heap.size w6 (.slice A7 bl.length c7) bl y rfl rfl HO7.out (by omega) (Nat.le_trans hsz HB6.out.size) ?_
                 intro v8 w8 hown8 hown7 hg8
                 have hb6 := h9.out.trans (HB6.out.mono h9.out.size)
                 have HB8 := Lib.hid ((hb6.alloc hb6.size (.cells #[.int .i64 y] 3)).grown hg8 (by simp; have := hb6.size; omega) (fun k hk => (hown7.lt k hk).1))
                 have HL8 := Lib.hid (keep_row (HO6.out.alloc _) hown7 hg8 (by decide))
                 have HK8 : Hid (KBox w8 w3.heap.size f b u) := keep_blk (e := 62) (HK6.out.below ((Below.refl w6.heap.size w6).alloc (Nat.le_refl _) (.cells #[.int .i64 y] 3)) HK6.out.lt) hown7 hg8 (by decide)
                 obtain ⟨A8, c8, rfl, -⟩ := Lg.own_slice hown8
                 have HO8 := Lib.hid hown8
                 clear hown8 hown7 hg8 hb6)
              | (go_at_call 76; refine (HRBY.out _ HB8.out).mono ?_; rintro e w9 ⟨v9, rfl, ow9, b9⟩
                 have HB9 := Lib.hid (HB8.out.trans (b9.mono HB8.out.size))
                 have HL9 := Lib.hid (own_below HL8.out b9 (Nat.le_refl _))
                 have HO9 := Lib.hid (own_below HO8.out b9 (Nat.le_refl _))
                 have HK9 := Lib.hid (HK8.out.below b9 HK8.out.lt)
                 obtain ⟨A9, c9, rfl, -⟩ := own_sps ow9
                 have HSP9 := Lib.hid (SpsAt.of_own ow9 rfl (fun s hs => small_fit (spU_small (HGY.out s hs))))
                 clear b9 ow9)
              | (at_builtin
                 refine joinS_law rfl (.tmp 61) (.tmp 62) rfl w.heap.size w9 (.slice A6 l.length c6) l rfl w9.heap.size A9 (grpB sb).length c9 (grpB sb) rfl HL9.out HSP9.out (by omega) HB9.out.size ?_
                 intro v10 w10 hown10 hg10 hb10
                 have HK10 : Hid (KBox w10 w3.heap.size f b u) := keep_blk (e := 62) HK9.out HL9.out hg10 (by decide)
                 have HO10 := Lib.hid (keep_row HO9.out HL9.out hg10 (by decide))
                 have HB10 := Lib.hid (HB9.out.trans hb10)
                 have HL10 := Lib.hid hown10
                 clear hown10 hg10 hb10))
            go_roundw
            case rel => exact ⟨fu, bl ++ [y], l ++ grpB sb, ny, rfl, by have := HFU.out; show _ = _; rw [List.length_append, List.length_singleton]; omega, HST2.out, HND.out, by have := h4.out; show _ ≤ _; rw [List.length_append, List.length_append, List.length_singleton]; omega, fun s hs => by
              rcases List.mem_append.1 hs with hs | hs
              · exact h5.out s hs
              · exact HGY.out s hs, HL10.out, by show World.ownsRow _ _ _ _ _ _ _; rw [show bl.length + 1 = (bl ++ [y]).length by simp]; exact HO10.out, HK10.out, HB10.out, HNY.out⟩
            case measure => simp [lenOf]; omega
      · rw [decide_eq_false hin] at HO1
        have HR2 := Lib.hid (HBAD.out (fun hn => hin hn.1))
        clear HBAD hin HLN HLS
        generalize hnl : l.length = nl at *
        generalize hnb : bl.length = nb at *
        go_wp2_with (first
          | (go_at_call 34; refine (HSM.out _ _).mono ?_; rintro e w5 ⟨rfl, rfl⟩)
          | (go_at_call 46; refine HO1.out.mono ?_; rintro e w6 ⟨rfl, b6⟩; have HB6 := Lib.hid b6; clear b6 y0 y1 y2))
        refine bodyPost_ret (v := .tuple #[.slice none 0 0, .slice none 0 0, .int .i64 15]) (by simp [results, Tryz.results44, go_sem]) rfl ?_
        rw [HR2.out]
        exact ⟨rfl, h9.out.trans (HB6.out.mono h9.out.size)⟩
end
end Go.Proofs.YtgdlfiejjnjcpaaGreat.Dl
