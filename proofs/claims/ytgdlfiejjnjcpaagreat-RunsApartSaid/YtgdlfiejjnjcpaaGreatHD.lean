/-
  WALKS: readBlock, on a deal with a crown, with its range over slices.Chunk. Condition: a deal on a calm slab; a block of it.
-/
import Derived.Test.YtgdlfiejjnjcpaaGreatHC
import Derived.Test.YtgdlfiejjnjcpaaGreatHY
import Derived.Test.YtgdlfiejjnjcpaaGreatBI
import Derived.Test.YtgdlfiejjnjcpaaGreatGB
set_option linter.unusedVariables false
set_option linter.unusedSimpArgs false
set_option maxRecDepth 100000
set_option maxHeartbeats 8000000
namespace Go.Proofs.YtgdlfiejjnjcpaaGreat.Dl
open Go.RowKit Go.Shelf
open Mk
open Sl (Turns)
open Kr (crv rightK kf kb kc KBox cells3 I64 inB)
open Ci (chunkV lenC KpC firstsC)
attribute [local go_sem] Oper.semAt_some

/-! ### a region that draws, in a round: as outside of it, where nothing is deferred -/
section
variable {P : Program} {ops : Array Oper} {Q : Exit → Act → World → Prop} {S : World → Prop} {md : Region.Mode}
theorem op_round {r n i : Nat} {K : Act → World → Prop} {a : Act} {w : World} (hnd : ∀ (j : Nat) (o : Oper), ops[j]? = some o → ∀ c, o.op ≠ .defer c) (hL : ∀ a w, ¬ Q .outgrown a w)
    (h : wpOp P ops Q i K a w) : wpOpIn (Fence.wide.inRound r) n P ops Q i K a w := by
  unfold wpOp at h
  unfold wpOpIn
  cases ho : ops[i]? with
  | none => rw [ho] at h; exact h
  | some o =>
    rw [ho] at h
    simp only at h ⊢
    split
    · rename_i hw
      rw [if_pos hw] at h
      rcases h with h | ⟨_, a, w, x⟩
      · refine ⟨fun _ _ => trivial, ?_⟩
        rw [Oper.semAt_plain _ _ _ (hnd i o ho)]
        unfold Oper.wp at h
        generalize (execOp a.eval o).run P w = z at *
        cases z with
        | ok x w' =>
          cases x <;> simp only [Oper.upon, Oper.uponIn] at h ⊢ <;>
            first
              | exact h
              | exact ⟨(by intro e; cases e), CallsIn.inRound r (callsIn_wide.2 h)⟩
              | exact ⟨(by intro e; cases e), fun c cs _ => let ⟨v, w', q, s⟩ := h c cs; ⟨v, w', q, stepsIn_wide.2 s⟩⟩
        | halt x w' => cases x <;> simp only [Oper.upon, Oper.uponIn] at h ⊢ <;> exact h
      · exact absurd x (hL a w)
    · rename_i hw
      rw [if_neg hw] at h
      exact ⟨fun _ _ => trivial, h⟩
theorem any_round {r n : Nat} (hnd : ∀ (j : Nat) (o : Oper), ops[j]? = some o → ∀ c, o.op ≠ .defer c) (hL : ∀ a w, ¬ Q .outgrown a w) :
    ∀ (fuel : Nat) (listed : Array Bool) (a : Act) (w : World), wpAnyH P md ops Q S fuel listed a w → wpAnyIn (Fence.wide.inRound r) n P md ops Q fuel listed a w := by
  intro fuel
  induction fuel with
  | zero => intro listed a w h; exact h
  | succ fuel ih =>
    intro listed a w h
    exact ⟨h.1, fun i hi => wpOpIn_mono (fun a' w' hh => ih _ a' w' hh.2) (op_round hnd hL (h.2 i hi))⟩
theorem region_round {r n id : Nat} {a : Act} {w : World} (hm : P.follows .mixedOrders = true) (hnd : ∀ (j : Nat) (o : Oper), ops[j]? = some o → ∀ c, o.op ≠ .defer c) (hL : ∀ a w, ¬ Q .outgrown a w) (hS : S w.drew)
    (h : S w.drew → wpAnyH P .any ops Q S ops.size (Array.replicate ops.size false) a w.drew) : (Code.region id ops true).wpIn (Fence.wide.inRound r) n P Q a w :=
  wpIn_region_any hm (any_round hnd hL _ _ _ _ (h hS))
/-- no operation of them is deferred, as a Bool. -/
def noDefer (ops : Array Oper) : Bool := ops.toList.all fun o => match o.op with | .defer _ => false | _ => true
theorem noDefer_t (h : noDefer ops = true) : ∀ (j : Nat) (o : Oper), ops[j]? = some o → ∀ c, o.op ≠ .defer c := fun j o ho c e => by
  unfold noDefer at h
  rw [List.all_eq_true] at h
  have h1 := h o (Array.mem_toList_iff.2 (Array.mem_of_getElem? ho))
  rw [e] at h1
  cases h1
end
theorem grown_below {w w' : World} (h : Below w.heap.size w w') : w.grownBy w' none := ⟨h.os, h.tape, h.output, h.size, fun k hk _ => h.block k hk⟩
theorem row_tag {w : World} {base n sz : Nat} {e : TypeId} {v : Value} {xs : List Value} (h : w.ownsRow base e sz v n xs) {b : Nat} (hb : v.ownBlock = some b) : ∃ cs, w.heap[b]? = some (.cells cs e (0, 0)) := by
  rcases h.2 with ⟨rfl, -⟩ | ⟨g, cap, cur, rfl, _, hg, _⟩
  · simp [Value.ownBlock] at hb
  · have : g = b := by simpa [Value.ownBlock] using hb
    subst this
    exact ⟨cur, hg⟩
/-- 'append(l, s)' of spans, at a step of a region that draws its order: what grows. -/
theorem step_pushG {ops : Array Oper} {o : Oper} {a : Act} {K : Act → World → Prop} {Q : Exit → Act → World → Prop} {E : Prop} (hgd : o.guard = none) (s x : Operand)
    (ho : o.op = .call { callee := .builtin .append, args := #[s, x], argTypes := #[28, 28] })
    (base : Nat) (W : World) (v : Value) (l : List Sp) (sp : Sp) (hs : a.eval s = v) (hx : a.eval x = .slice (some ⟨W.heap.size, 0, none⟩) 1 1)
    (hown : W.ownsRow base 85 3 v l.length (spsCells l)) (hl : l.length ≤ 100000) (hbase : base ≤ W.heap.size)
    (h : ∀ v' w', w'.ownsRow base 85 3 v' (l ++ [sp]).length (spsCells (l ++ [sp])) → (W.alloc (.cells #[.int .i64 sp.at_, .int .i64 sp.st, .int .i64 sp.len] 85)).grownBy w' v.ownBlock → K (a.put o.dst v') w') :
    if Region.wanted o (yielded ops a.tmps) = true then Oper.wp Tryz.prog o a (W.alloc (.cells #[.int .i64 sp.at_, .int .i64 sp.st, .int .i64 sp.len] 85)) K Q else E := by
  have hw : Region.wanted o (yielded ops a.tmps) = true := by simp [Region.wanted, hgd]
  rw [if_pos hw]
  obtain ⟨i0, hi, hz0, hz1, hz2⟩ := info_parts info48
  refine wp_append_own _ s x 28 ho base 85 i0 _ 3 24 Tryz.underlying28 hi hz0 hz1 hz2 rfl (by decide) v l.length (spsCells l) hs (hown.alloc _) ⟨W.heap.size, 0, none⟩ 1 1 (spCells sp) hx rfl
    (World.news_of_block (heap_alloc_new W _)) (one_sp sp) (by unfold maxLen; omega) (by omega) (by simp; omega) ?_
  intro v' w' hown' hg _
  refine h v' w' ?_ hg
  rw [spsCells_snoc, List.length_append]; exact hown'
/-- the end of a round: the span is appended, the group stored in its box. -/
theorem grp_end {w W W6 : World} {N p B1 B2 : Nat} {v v' : Value} {ls : List Sp} {z : Sp} (hbox : Boxed W p 28 v) (hrow : W.ownsRow N 85 3 v ls.length (spsCells ls)) (hN : N ≤ W.heap.size) (hb : Below w.heap.size w W)
    (hp : w.heap.size ≤ p) (hpN : p < N) (h1 : B1 < N) (h2 : B2 < N) (hp1 : B1 ≠ p) (hp2 : B2 ≠ p)
    (hg : (W.drew.alloc (.cells #[.int .i64 z.at_, .int .i64 z.st, .int .i64 z.len] 85)).grownBy W6 v.ownBlock) (hr : W6.ownsRow N 85 3 v' (ls ++ [z]).length (spsCells (ls ++ [z]))) :
    KeepsOthers W (W6.setCell ⟨p, 0, none⟩ v') ∧ KpC B1 B2 W (W6.setCell ⟨p, 0, none⟩ v') ∧ Boxed (W6.setCell ⟨p, 0, none⟩ v') p 28 v' ∧ (W6.setCell ⟨p, 0, none⟩ v').ownsRow N 85 3 v' (ls ++ [z]).length (spsCells (ls ++ [z])) ∧
      N ≤ (W6.setCell ⟨p, 0, none⟩ v').heap.size ∧ Below w.heap.size w (W6.setCell ⟨p, 0, none⟩ v') ∧ (∀ k, k < N → W6.heap[k]? = W.heap[k]?) ∧ Boxed W6 p 28 v := by
  have hba : Below W.heap.size W (W.drew.alloc (.cells #[.int .i64 z.at_, .int .i64 z.st, .int .i64 z.len] 85)) := (Below.dr (Below.refl W.heap.size W)).alloc (Nat.le_refl _) _
  have hga := grown_below hba
  have hrowa := own_below hrow hba (Nat.le_refl _)
  have hlow : ∀ k, k < N → W6.heap[k]? = W.heap[k]? := fun k hk => by
    rw [hg.block k (by have := hba.size; omega) (fun e => by have := (hrowa.lt k e.symm).1; omega)]
    exact hba.block k (by omega)
  have hbox6 : Boxed W6 p 28 v := (hlow p hpN).trans hbox
  refine ⟨((KeepsOthers.of_grownBy hga (fun j o e => by cases e)).trans (KeepsOthers.of_grownBy hg fun j o e ho => ?_)).trans (KeepsOthers.setCell _ _ _), ⟨?_, ?_⟩, hbox6.set v', ?_, ?_, ?_, hlow, hbox6⟩
  · obtain ⟨cs, hcs⟩ := row_tag hrowa e
    rw [hcs] at ho; cases ho; rfl
  · rw [heap_setCell_other _ _ _ _ (by exact hp1)]; exact hlow B1 h1
  · rw [heap_setCell_other _ _ _ _ (by exact hp2)]; exact hlow B2 h2
  · exact hr.kept (grownBy_setCell' _ _ _) (Or.inr fun e => by have := (hr.lt p e).1; omega)
  · have := (grownBy_setCell' W6 p v').size; have := hg.size; have := hba.size; omega
  · exact ((hb.trans (hba.mono hb.size)).grown hg (by have := hba.size; have := hb.size; omega) (fun k e => by have := (hrowa.lt k e).1; have := hb.size; omega)).setCell hp _
/-- the answer of readBlock. -/
def RetRb (w : World) (s : ByteArray) (e : Ending) (w' : World) : Prop :=
  if blkOk s = true then ∃ v, e = .returned (.tuple #[v, .int .i64 (nxB s), .int .i64 0]) ∧ w'.ownsRow w.heap.size 85 3 v (grpB s).length (spsCells (grpB s)) ∧ Below w.heap.size w w'
  else e = .returned (.tuple #[.slice none 0 0, .int .i64 0, .int .i64 15]) ∧ Below w.heap.size w w'
theorem ret_rb_no {w w' : World} {s : ByteArray} {e : Ending} (h : blkOk s = false) (he : e = .returned (.tuple #[.slice none 0 0, .int .i64 0, .int .i64 15])) (hb : Below w.heap.size w w') : RetRb w s e w' := by
  unfold RetRb
  rw [if_neg (by rw [h]; decide)]
  exact ⟨he, hb⟩
/-- the state behind the spans pre: the group in its box, its row, what lies below. -/
def GrpAt (w : World) (N p : Nat) (vs : List Int) {q : Nat} (pre : List (Fin q)) (W : World) : Prop :=
  (∃ v, Boxed W p 28 v ∧ W.ownsRow N 85 3 v (pre.map fun x : Fin q => (⟨vs.getD (1 + 3 * x.1) 0, vs.getD (2 + 3 * x.1) 0, vs.getD (3 + 3 * x.1) 0⟩ : Sp)).length (spsCells (pre.map fun x : Fin q => (⟨vs.getD (1 + 3 * x.1) 0, vs.getD (2 + 3 * x.1) 0, vs.getD (3 + 3 * x.1) 0⟩ : Sp))) ∧ True) ∧ N ≤ W.heap.size ∧ Below w.heap.size w W
theorem GrpAt.own (w : World) (N p : Nat) (vs : List Int) {q : Nat} {C : Nat} (hC : w.heap.size ≤ C) : OwnFrom C (GrpAt w N p vs (q := q)) :=
  ((holdsRow_own N p 28 85 3 (fun pre : List (Fin q) => (pre.map fun x : Fin q => (⟨vs.getD (1 + 3 * x.1) 0, vs.getD (2 + 3 * x.1) 0, vs.getD (3 + 3 * x.1) 0⟩ : Sp)).length) (fun pre => spsCells (pre.map fun x : Fin q => (⟨vs.getD (1 + 3 * x.1) 0, vs.getD (2 + 3 * x.1) 0, vs.getD (3 + 3 * x.1) 0⟩ : Sp))) (fun _ _ => True)).from C).and
    (fun _ _ _ _ hs hg hr => ⟨Nat.le_trans hs.1 hg.size, hs.2.grown hg hs.2.size (fun k e => Nat.le_trans hC (hr k e).1)⟩)
theorem firsts_grp (vs : List Int) (q : Nat) : (firstsC q q).map (fun x : Fin q => (⟨vs.getD (1 + 3 * x.1) 0, vs.getD (2 + 3 * x.1) 0, vs.getD (3 + 3 * x.1) 0⟩ : Sp)) = grpV vs q := by
  unfold firstsC grpV
  rw [List.take_of_length_le (by simp)]
  apply List.ext_getElem
  · simp
  · intro i h1 h2; simp
section
variable {w0 w : World} {B d q p pd pm k c : Nat} {F : Bxs} {N : Nat} {D V : List ByteArray} {b : Nat} {m : ByteArray}
theorem Dk.sized (h : Dk w0 w B d q p pd pm k c F N D V) {i : Nat} (hi : i < N) : (V.getD i ⟨#[]⟩).size = 128 := by
  obtain ⟨v, dv⟩ := h.ex
  exact dv.whole.get (k := i) (by rw [dv.len, h.hN]; exact hi)
theorem readblock_any (h : Dk w0 w B d q p pd pm k c F N D V) (i : Int) (hi : 51 ≤ i ∧ i < N) :
    Calls Tryz.prog 76 #[.pointer (some ⟨d, 0, none⟩), .int .i64 i] w (RetRb w (bA V i)) := by
  have hha : hasB V.length i = true := hasB_t.2 (by rw [h.lenV]; omega)
  have HRD := Lib.hid (dk_read h i)
  have e2 : rdB V i = bA V i := by unfold rdB bA; rw [if_pos hha]
  have e3 : rdE V i = 0 := by unfold rdE; rw [if_pos hha]
  rw [e2, e3] at HRD
  have hsz : (bA V i).size = 128 := h.sized (by omega)
  clear h hha e2 e3
  generalize bA V i = s at *
  obtain ⟨hrv, hrl⟩ := rvs_ok hsz
  have HRL := Lib.hid hrl
  have HRF := Lib.hid (rvs_fit hsz)
  have HGF := Lib.hid (grp_fit hsz)
  have HWD := Lib.hid widths_any
  unfold RetWs at HWD
  have HMR := Lib.hid (fun A c W (hW : IntsAt W W.heap.size A 67 wR) => Go.Proofs.YtgdlfiejjnjcpaaGreat.read_any A 67 c W.heap.size wR s W hW (Nat.le_refl _) (by omega) (by omega))
  rw [hrv] at HMR
  have HC0 : Hid ((rvs s).getD 0 0 = cntB s) := rfl
  have HN0 : Hid ((rvs s).getD 66 0 = nxB s) := rfl
  have HS := Lib.hid some_any
  clear hrv hrl hsz
  by_cases hh : headOk s = true
  · have hh := headOk_t.1 hh
    obtain ⟨u1, u2, u3⟩ := hh
    obtain ⟨q, hq⟩ := Int.eq_ofNat_of_zero_le (show 0 ≤ cntB s by omega)
    have HG : Hid (grpB s = grpV (rvs s) q) := by show _ = _; unfold grpB; rw [hq]; rfl
    have HOK : Hid (blkOk s = decide (blockB (grpB s) (nxB s) = s)) := by
      show _ = _
      unfold blkOk
      rw [headOk_t.2 ⟨u1, u2, u3⟩, Bool.true_and]
    have HXF : Hid (Fit (nxB s)) := by have := HRF.out 66; unfold nxB; show Fit _; unfold Fit; omega
    have HGL : Hid ((grpB s).length = q) := by show _ = _; rw [HG.out, grpV_len]
    rw [hq] at HC0 u1 u2 u3
    clear hq
    have hq1 : 1 ≤ q := by omega
    have hq2 : q ≤ 20 := by omega
    have t1 : decide ((q : Int) < 1) = false := by simp; omega
    have t2 : decide ((20 : Int) < (q : Int)) = false := by simp; omega
    have hnx : q < 20 → nxB s = 0 := fun h => by omega
    generalize hnn : nxB s = nx at *
    have HNN := Lib.hid hnn
    clear hnn u1 u2 u3
    have hcase : (q < 20 ∧ nx = 0) ∨ q = 20 := by
      rcases Nat.lt_or_ge q 20 with h | h
      · exact .inl ⟨h, hnx h⟩
      · exact .inr (by omega)
    clear hnx
    refine (callsIn_wide (n := 5)).1 ?_
    refine callsIn_of_wp_marks Tryz.func76 rfl trivial ?_ rfl
    simp only [Tryz.ntmps76, List.size_toArray, List.length_cons, List.length_nil, Nat.reduceAdd, Nat.reduceSub, Array.replicate_succ, Array.replicate_zero, List.push_toArray, List.append_toArray, List.nil_append, List.cons_append]
    gi_wp2_with (first
      | (refine ⟨trivial, ?_⟩; gi_at_call 62; refine (callsIn_wide.2 HRD.out).mono ?_; rintro e w1 ⟨rfl, b1⟩; have HB1 := Lib.hid b1; clear b1)
      | (refine ⟨trivial, ?_⟩; gi_at_call 100; refine (callsIn_wide.2 (HWD.out _)).mono ?_; rintro e w2 ⟨A2, c2, rfl, i2, b2⟩; have HB2 := Lib.hid (HB1.out.trans (b2.mono HB1.out.size)); have HMR2 := Lib.hid (HMR.out A2 c2 w2 i2); clear b2 i2)
      | (refine ⟨trivial, ?_⟩; gi_at_call 97; refine (callsIn_wide.2 HMR2.out).mono ?_; rintro e w3 ⟨A3, n3, c3, rfl, hn3, i3, b3⟩
         obtain rfl : n3 = 67 := by have := i3.len; rw [HRL.out] at this; exact this.symm
         have HB3 := Lib.hid (HB2.out.trans (b3.mono HB2.out.size))
         have HI3 := Lib.hid i3
         obtain ⟨bb, o, rfl, hbb, g0⟩ := i3.at_ (k := 0) (by omega)
         obtain ⟨bb', o', e', -, g66⟩ := i3.at_ (k := 66) (by omega)
         obtain ⟨rfl, rfl⟩ : bb = bb' ∧ o = o' := by injection e' with e'; injection e' with e1 e2; exact ⟨e1, e2⟩
         rw [HC0.out] at g0
         rw [HN0.out] at g66
         rw [Nat.add_zero] at g0
         have y0 : w3.drew.cell? ⟨bb, o, none⟩ = some (.int .i64 (q : Int)) := g0
         have y66 : w3.drew.cell? ⟨bb, o + 66, none⟩ = some (.int .i64 nx) := g66
         clear b3 i3 e'))
    refine (fun (hmeet : PLift (?goalMeetA : Prop)) => ?bodyMeetA) (PLift.up ?restMeetA)
    case bodyMeetA =>
      gi_region
      all_goals exact hmeet.down
    case restMeetA =>
      have HB3D := Lib.hid (Below.dr HB3.out)
      have HI3D : Hid (IntsAt w3.drew w3.drew.heap.size (some ⟨bb, o, none⟩) 67 (rvs s)) := HI3.out.keep fun _ _ => rfl
      have hbbd : bb < w3.drew.heap.size := hbb
      clear y0 y66 HB3 HI3 HB2 HB1 hbb HMR2
      generalize w3.drew = W3 at *
      rcases hcase with ⟨t3, rfl⟩ | rfl
      · have t3' : decide ((q : Int) < 20) = true := by simp; omega
        gi_wp2_with fail
        all_goals first
          | (rename_i q1 q2; exact absurd (Option.some.inj q1) (by intro q; cases q))
          | (refine ⟨trivial, ?_⟩
             refine (callsIn_wide.2 (HS.out _ _)).mono ?_
             rintro e w4 ⟨rfl, rfl⟩
             gi_wp2_with fail
             refine ⟨trivial, ?_⟩
             refine (callsIn_wide.2 (Ci.chunk_any _ _ _ _)).mono ?_
             rintro e w' ⟨rfl, rfl⟩
             obtain ⟨W0, hW0⟩ : ∃ W0, ((W3.alloc (.cells #[.slice none 0 0] 28)).alloc (.cells #[.slice (some ⟨bb, o + 1, none⟩) (3 * q) (c3 - 1)] 27)).alloc (.cells #[.int .i64 3] 3) = W0 := ⟨_, rfl⟩
             have e1 : (W3.alloc (.cells #[.slice none 0 0] 28)).heap.size = W3.heap.size + 1 := by simp
             have e2 : ((W3.alloc (.cells #[.slice none 0 0] 28)).alloc (.cells #[.slice (some ⟨bb, o + 1, none⟩) (3 * q) (c3 - 1)] 27)).heap.size = W3.heap.size + 1 + 1 := by simp
             have hsz : W0.heap.size = W3.heap.size + 1 + 1 + 1 := by rw [← hW0]; simp
             have hbP : Boxed W0 W3.heap.size 28 (.slice none 0 0) := by rw [← hW0]; exact ((Boxed.new W3 28 _).alloc _).alloc _
             have hb1 : Boxed W0 (W3.heap.size + 1) 27 (.slice (some ⟨bb, o + 1, none⟩) (3 * q) (c3 - 1)) := by
               rw [← hW0]
               have := (Boxed.new (W3.alloc (.cells #[.slice none 0 0] 28)) 27 (.slice (some ⟨bb, o + 1, none⟩) (3 * q) (c3 - 1))).alloc (.cells #[.int .i64 3] 3)
               rwa [e1] at this
             have hb2 : Boxed W0 (W3.heap.size + 1 + 1) 3 (.int .i64 3) := by
               rw [← hW0]
               have := Boxed.new ((W3.alloc (.cells #[.slice none 0 0] 28)).alloc (.cells #[.slice (some ⟨bb, o + 1, none⟩) (3 * q) (c3 - 1)] 27)) 3 (.int .i64 3)
               rwa [e2] at this
             have hB30 : Below W3.heap.size W3 W0 := by
               rw [← hW0]
               exact (((Below.refl _ _).alloc (Nat.le_refl _) _).alloc (by rw [e1]; omega) _).alloc (by rw [e2]; omega) _
             have hW3 := HB3D.out.size
             have hB0 : Below w.heap.size w W0 := HB3D.out.trans (hB30.mono hW3)
             have HI0 := Lib.hid (HI3D.out.below hB30 (Nat.le_refl _))
             rw [hW0, e1]
             have HBB := Lib.hid hbbd
             clear hW0 e1 e2 hbbd
             gi_wp2
             have HWB : Hid (Below w.heap.size w W3) := HB3D
             have hm3 : ∀ k, k < q ↔ 3 * k < (3 * q) := fun k => by omega
             refine wpIn_rangeFunc_ownF rfl (by omega) (gf := 139) (lb := #[.pointer (some ⟨W3.heap.size + 1, 0, none⟩), .pointer (some ⟨W3.heap.size + 1 + 1, 0, none⟩)]) rfl trivial (enters_of Tryz.func139 (by kernel_rfl) rfl)
               (Ci.iterC_stops Fence.wide _ trivial rfl (by omega) (W3.heap.size + 1) (W3.heap.size + 1 + 1) bb (o + 1) q (3 * q) (c3 - 1) (by omega) (by omega) hm3 W0 hb1 hb2) Ci.KpC.t (Ci.KpC.b (by omega) (by omega)) (Below.refl _ _) (fun _ => rfl)
               (GrpAt W3 W0.heap.size W3.heap.size (rvs s) (q := q)) (fun _ _ _ => False) (GrpAt.own W3 _ _ _ (by omega)) (fun _ _ _ _ _ hs _ _ => hs)
               ⟨⟨_, hbP, World.ownsRow_nil _ _ _ _, trivial⟩, Nat.le_refl _, hB30⟩
               (fun x => { tmps := #[.pointer (some ⟨d, 0, none⟩), .int .i64 i, undef, undef, .slice none 0 0, .int .i64 0, .int .i64 0, .string s, .int .i64 0, .slice (some ⟨bb, o, none⟩) 67 c3, .int .i64 0, .int .i64 (q : Int), .int .i64 0, .pointer (some ⟨W3.heap.size, 0, none⟩), .slice (some ⟨bb, o + 1 + 3 * x.1, none⟩) (lenC (3 * q) x.1) (lenC (3 * q) x.1), .tuple #[.string s, .int .i64 0], .pointer (some ⟨d, 0, none⟩), .int .i64 i, .tuple #[.string s, .int .i64 0], .string s, .int .i64 0, .tuple #[.slice (some ⟨bb, o, none⟩) 67 c3, .int .i64 0], .slice A2 67 c2, .string s, .tuple #[.slice (some ⟨bb, o, none⟩) 67 c3, .int .i64 0], .slice (some ⟨bb, o, none⟩) 67 c3, .int .i64 0, .slice (some ⟨bb, o, none⟩) 67 c3, .pointer (some ⟨bb, o, none⟩), .int .i64 (q : Int), .slice (some ⟨bb, o, none⟩) 67 c3, .slice (some ⟨bb, o, none⟩) 67 c3, .int .i64 67, .int .i64 66, .pointer (some ⟨bb, o + 66, none⟩), .int .i64 0, .int .i64 (q : Int), .bool false, .bool false, .int .i64 (q : Int), .bool false, .bool false, .bool false, .int .i64 (q : Int), .bool true, .bool true, .int .i64 0, .bool false, .bool false, .bool false, .slice (some ⟨bb, o, none⟩) 67 c3, .int .i64 (q : Int), .int .i64 (3 * (q : Int)), .int .i64 (1 + 3 * (q : Int)), .slice (some ⟨bb, o + 1, none⟩) (3 * q) (c3 - 1), .func (.func 139) #[] #[.pointer (some ⟨W3.heap.size + 1, 0, none⟩), .pointer (some ⟨W3.heap.size + 1 + 1, 0, none⟩)], .slice (some ⟨bb, o + 1 + 3 * x.1, none⟩) (lenC (3 * q) x.1) (lenC (3 * q) x.1), undef, undef, undef, undef, undef, undef, undef, undef, undef, undef, undef, undef, undef, undef, undef, undef, undef, undef, undef, undef], defers := [] })
               ?assignTA ?bodyTA ?doneTA ?stopTA
             case assignTA =>
               intro l x W K hK
               simp only [chunkV]
               gi_wp2
               exact hK
             case bodyTA =>
               rintro lr pre x W ⟨⟨v, hbox, hrow, -⟩, hsz', hb'⟩ hpq
               have hxq : x.1 < q := x.2
               have hL3 : lenC (3 * q) x.1 = 3 := by unfold lenC; omega
               have hIW := HI3D.out.below hb' (Nat.le_refl _)
               obtain ⟨b2, o2, e2, hb2l, g1⟩ := hIW.at_ (k := 1 + 3 * x.1) (by omega)
               obtain ⟨rfl, rfl⟩ : bb = b2 ∧ o = o2 := by injection e2 with e2; injection e2 with e3 e4; exact ⟨e3, e4⟩
               obtain ⟨_, _, e2', _, g2⟩ := hIW.at_ (k := 2 + 3 * x.1) (by omega)
               injection e2' with e2'; injection e2' with e3 e4; subst e3; subst e4
               obtain ⟨_, _, e2', _, g3⟩ := hIW.at_ (k := 3 + 3 * x.1) (by omega)
               injection e2' with e2'; injection e2' with e3 e4; subst e3; subst e4
               have HPRE : Hid (((pre ++ [x]).map fun x : Fin q => (⟨(rvs s).getD (1 + 3 * x.1) 0, (rvs s).getD (2 + 3 * x.1) 0, (rvs s).getD (3 + 3 * x.1) 0⟩ : Sp)) = (pre.map fun x : Fin q => (⟨(rvs s).getD (1 + 3 * x.1) 0, (rvs s).getD (2 + 3 * x.1) 0, (rvs s).getD (3 + 3 * x.1) 0⟩ : Sp)) ++ [⟨(rvs s).getD (1 + 3 * x.1) 0, (rvs s).getD (2 + 3 * x.1) 0, (rvs s).getD (3 + 3 * x.1) 0⟩]) := by show _ = _; simp
               have hpl : (pre.map fun x : Fin q => (⟨(rvs s).getD (1 + 3 * x.1) 0, (rvs s).getD (2 + 3 * x.1) 0, (rvs s).getD (3 + 3 * x.1) 0⟩ : Sp)).length ≤ 100000 := by rw [List.length_map]; omega
               have HSE := Lib.hid (fun W6 v' hg hr => grp_end (w := W3) (W := W) (W6 := W6) (N := W0.heap.size) (p := W3.heap.size) (B1 := W3.heap.size + 1) (B2 := W3.heap.size + 1 + 1) (v := v) (v' := v') (ls := (pre.map fun x : Fin q => (⟨(rvs s).getD (1 + 3 * x.1) 0, (rvs s).getD (2 + 3 * x.1) 0, (rvs s).getD (3 + 3 * x.1) 0⟩ : Sp))) (z := ⟨(rvs s).getD (1 + 3 * x.1) 0, (rvs s).getD (2 + 3 * x.1) 0, (rvs s).getD (3 + 3 * x.1) 0⟩) hbox hrow hsz' hb' (Nat.le_refl _) (by omega) (by omega) (by omega) (by omega) (by omega) hg hr)
               have HROW := Lib.hid hrow
               have HBOX := Lib.hid hbox
               have HSZ := Lib.hid hsz'
               have HBL : Hid (bb < W0.heap.size) := by show _ < _; have := HBB.out; omega
               rw [show o + (1 + 3 * x.1) = o + 1 + 3 * x.1 by omega] at g1
               rw [show o + (2 + 3 * x.1) = o + 1 + 3 * x.1 + 1 by omega] at g2
               rw [show o + (3 + 3 * x.1) = o + 1 + 3 * x.1 + 2 by omega] at g3
               rw [hL3]
               unfold GrpAt
               generalize (pre.map fun x : Fin q => (⟨(rvs s).getD (1 + 3 * x.1) 0, (rvs s).getD (2 + 3 * x.1) 0, (rvs s).getD (3 + 3 * x.1) 0⟩ : Sp)) = ls at *
               generalize (rvs s).getD (1 + 3 * x.1) 0 = za at *
               generalize (rvs s).getD (2 + 3 * x.1) 0 = zb at *
               generalize (rvs s).getD (3 + 3 * x.1) 0 = zc at *
               have hx3 : o + 1 + 3 * x.1 = o + 1 + 3 * x.1 := rfl
               generalize o + 1 + 3 * x.1 = oy at *
               clear hx3 hbox hrow hsz' hb' hIW hL3 hb2l
               have kP : W.drew.cell? ⟨W3.heap.size, 0, none⟩ = some v := HBOX.out.cell
               have kA : (W.drew.alloc (.cells #[.int .i64 za, .int .i64 zb, .int .i64 zc] 85)).cell? ⟨W3.heap.size, 0, none⟩ = some v := (HBOX.out.alloc _).cell
               have kA2 : (W.alloc (.cells #[.int .i64 za, .int .i64 zb, .int .i64 zc] 85)).drew.cell? ⟨W3.heap.size, 0, none⟩ = some v := kA
               have y0 : W.drew.cell? ⟨bb, oy, none⟩ = some (.int .i64 za) := g1
               have y1 : W.drew.cell? ⟨bb, oy + 1, none⟩ = some (.int .i64 zb) := g2
               have y2 : W.drew.cell? ⟨bb, oy + 2, none⟩ = some (.int .i64 zc) := g3
               have hbw : bb < W.drew.heap.size := Nat.lt_of_lt_of_le HBL.out HSZ.out
               have a0 : (W.drew.alloc (.cells #[.int .i64 za, .int .i64 zb, .int .i64 zc] 85)).cell? ⟨bb, oy, none⟩ = some (.int .i64 za) := (World.cell?_alloc_lt _ _ ⟨bb, oy, none⟩ hbw).trans y0
               have a1 : (W.drew.alloc (.cells #[.int .i64 za, .int .i64 zb, .int .i64 zc] 85)).cell? ⟨bb, oy + 1, none⟩ = some (.int .i64 zb) := (World.cell?_alloc_lt _ _ ⟨bb, oy + 1, none⟩ hbw).trans y1
               have a2 : (W.drew.alloc (.cells #[.int .i64 za, .int .i64 zb, .int .i64 zc] 85)).cell? ⟨bb, oy + 2, none⟩ = some (.int .i64 zc) := (World.cell?_alloc_lt _ _ ⟨bb, oy + 2, none⟩ hbw).trans y2
               have HR3 : Hid (W.drew.ownsRow W0.heap.size 85 3 v ls.length (spsCells ls)) := own_below HROW.out (w' := W.drew) ⟨rfl, rfl, rfl, Nat.le_refl _, fun _ _ => rfl⟩ (Nat.le_refl _)
               have hmx : Tryz.prog.follows .mixedOrders = true := by kernel_rfl
               gi_wp2
               refine region_round (S := fun v => v.cell? ⟨bb, oy, none⟩ = some (.int .i64 za) ∧ v.cell? ⟨bb, oy + 1, none⟩ = some (.int .i64 zb) ∧ v.cell? ⟨bb, oy + 2, none⟩ = some (.int .i64 zc)) hmx (noDefer_t (by kernel_rfl)) (fun _ _ h => h) ⟨y0, y1, y2⟩ (fun hHeld => ?_)
               refine wpAnyH_take (i := 1) (oi := { dst := some 58, op := Op.move (Operand.tmp 14), type := 27, pos := _, after := _, guard := none }) (v := ?vr11) rfl (by kernel_rfl) (by kernel_rfl) (by kernel_rfl) (fun _ _ _ h => h) (Or.inl ⟨by rfl, ?hyr11⟩) (by assumption) ?restr11
               case hyr11 => (intro w hSw; (try dsimp only at hSw); go_simp <;> with_reducible rfl)
               simp only [Act.put, List.setIfInBounds_toArray, List.set_cons_zero, List.set_cons_succ]
               refine wpAnyH_take (i := 2) (oi := { dst := some 59, op := Op.indexAddr 27 (Operand.tmp 58) (Operand.const (Value.int IntKind.i64 0)), type := 0, pos := _, after := _, guard := none }) (v := ?vr12) rfl (by kernel_rfl) (by kernel_rfl) (by kernel_rfl) (fun _ _ _ h => h) (Or.inl ⟨by rfl, ?hyr12⟩) (by assumption) ?restr12
               case hyr12 => (intro w hSw; (try dsimp only at hSw); go_simp <;> with_reducible rfl)
               simp only [Act.put, List.setIfInBounds_toArray, List.set_cons_zero, List.set_cons_succ]
               refine wpAnyH_take (i := 3) (oi := { dst := some 60, op := Op.load 3 (Operand.tmp 59), type := 3, pos := _, after := _, guard := none }) (v := ?vr13) rfl (by kernel_rfl) (by kernel_rfl) (by kernel_rfl) (fun _ _ _ h => h) (Or.inl ⟨by rfl, ?hyr13⟩) (by assumption) ?restr13
               case hyr13 => (intro w hSw; (try dsimp only at hSw); go_simp <;> with_reducible rfl)
               simp only [Act.put, List.setIfInBounds_toArray, List.set_cons_zero, List.set_cons_succ]
               refine wpAnyH_take (i := 4) (oi := { dst := some 61, op := Op.move (Operand.tmp 14), type := 27, pos := _, after := _, guard := none }) (v := ?vr14) rfl (by kernel_rfl) (by kernel_rfl) (by kernel_rfl) (fun _ _ _ h => h) (Or.inl ⟨by rfl, ?hyr14⟩) (by assumption) ?restr14
               case hyr14 => (intro w hSw; (try dsimp only at hSw); go_simp <;> with_reducible rfl)
               simp only [Act.put, List.setIfInBounds_toArray, List.set_cons_zero, List.set_cons_succ]
               refine wpAnyH_take (i := 5) (oi := { dst := some 62, op := Op.indexAddr 27 (Operand.tmp 61) (Operand.const (Value.int IntKind.i64 1)), type := 0, pos := _, after := _, guard := none }) (v := ?vr15) rfl (by kernel_rfl) (by kernel_rfl) (by kernel_rfl) (fun _ _ _ h => h) (Or.inl ⟨by rfl, ?hyr15⟩) (by assumption) ?restr15
               case hyr15 => (intro w hSw; (try dsimp only at hSw); go_simp <;> with_reducible rfl)
               simp only [Act.put, List.setIfInBounds_toArray, List.set_cons_zero, List.set_cons_succ]
               refine wpAnyH_take (i := 6) (oi := { dst := some 63, op := Op.load 3 (Operand.tmp 62), type := 3, pos := _, after := _, guard := none }) (v := ?vr16) rfl (by kernel_rfl) (by kernel_rfl) (by kernel_rfl) (fun _ _ _ h => h) (Or.inl ⟨by rfl, ?hyr16⟩) (by assumption) ?restr16
               case hyr16 => (intro w hSw; (try dsimp only at hSw); go_simp <;> with_reducible rfl)
               simp only [Act.put, List.setIfInBounds_toArray, List.set_cons_zero, List.set_cons_succ]
               refine wpAnyH_take (i := 7) (oi := { dst := some 64, op := Op.move (Operand.tmp 14), type := 27, pos := _, after := _, guard := none }) (v := ?vr17) rfl (by kernel_rfl) (by kernel_rfl) (by kernel_rfl) (fun _ _ _ h => h) (Or.inl ⟨by rfl, ?hyr17⟩) (by assumption) ?restr17
               case hyr17 => (intro w hSw; (try dsimp only at hSw); go_simp <;> with_reducible rfl)
               simp only [Act.put, List.setIfInBounds_toArray, List.set_cons_zero, List.set_cons_succ]
               refine wpAnyH_take (i := 8) (oi := { dst := some 65, op := Op.indexAddr 27 (Operand.tmp 64) (Operand.const (Value.int IntKind.i64 2)), type := 0, pos := _, after := _, guard := none }) (v := ?vr18) rfl (by kernel_rfl) (by kernel_rfl) (by kernel_rfl) (fun _ _ _ h => h) (Or.inl ⟨by rfl, ?hyr18⟩) (by assumption) ?restr18
               case hyr18 => (intro w hSw; (try dsimp only at hSw); go_simp <;> with_reducible rfl)
               simp only [Act.put, List.setIfInBounds_toArray, List.set_cons_zero, List.set_cons_succ]
               refine wpAnyH_take (i := 9) (oi := { dst := some 66, op := Op.load 3 (Operand.tmp 65), type := 3, pos := _, after := _, guard := none }) (v := ?vr19) rfl (by kernel_rfl) (by kernel_rfl) (by kernel_rfl) (fun _ _ _ h => h) (Or.inl ⟨by rfl, ?hyr19⟩) (by assumption) ?restr19
               case hyr19 => (intro w hSw; (try dsimp only at hSw); go_simp <;> with_reducible rfl)
               simp only [Act.put, List.setIfInBounds_toArray, List.set_cons_zero, List.set_cons_succ]
               refine wpAnyH_take (i := 10) (oi := { dst := some 67, op := Op.build 85 #[(0, Operand.tmp 60), (1, Operand.tmp 63), (2, Operand.tmp 66)], type := 85, pos := _, after := _, guard := none }) (v := ?vr110) rfl (by kernel_rfl) (by kernel_rfl) (by kernel_rfl) (fun _ _ _ h => h) (Or.inl ⟨by rfl, ?hyr110⟩) (by assumption) ?restr110
               case hyr110 => (intro w hSw; (try dsimp only at hSw); go_simp <;> with_reducible rfl)
               simp only [Act.put, List.setIfInBounds_toArray, List.set_cons_zero, List.set_cons_succ]
               refine wpAnyH_ready (rs := [0, 11]) (by kernel_rfl) (by simp) ?_
               refine AllReadyH.cons (o := { dst := some 57, op := Op.load 28 (Operand.tmp 13), type := 28, pos := _, after := _, guard := none }) rfl (fun K' hK => ?_) (AllReadyH.cons (o := { dst := some 68, op := Op.buildSlice 28 1 #[(0, Operand.tmp 67)], type := 28, pos := _, after := _, guard := none }) rfl (fun K' hK => ?_) AllReadyH.nil)
               · go_simp
                 refine hK.out _ _ (⟨y0, y1, y2⟩) (fun hHeld => ?_)
                 clear hK K'
                 refine wpAnyH_ready (rs := [11]) (by kernel_rfl) (by simp) ?_
                 refine AllReadyH.cons (o := { dst := some 68, op := Op.buildSlice 28 1 #[(0, Operand.tmp 67)], type := 28, pos := _, after := _, guard := none }) rfl (fun K' hK => ?_) AllReadyH.nil
                 go_simp
                 refine hK.out _ _ (⟨a0, a1, a2⟩) (fun hHeld => ?_)
                 clear hK K'
                 refine wpAnyH_ready (rs := [12]) (by kernel_rfl) (by simp) ?_
                 refine AllReadyH.cons (o := { dst := some 69, op := Op.call { callee := Callee.builtin Builtin.append, args := #[Operand.tmp 57, Operand.tmp 68], argTypes := #[28, 28] }, type := 28, pos := _, after := _, guard := none }) rfl (fun K' hK => ?_) AllReadyH.nil
                 refine step_pushG rfl (.tmp 57) (.tmp 68) rfl W0.heap.size W.drew v ls ⟨za, zb, zc⟩ rfl rfl HR3.out hpl HSZ.out ?_
                 intro v6 w6 ho6 hg6
                 obtain ⟨q1, q2, q3, q4, q5, q6, q7, q8⟩ := HSE.out w6 v6 hg6 ho6
                 have HQ := Lib.hid (And.intro q1 (And.intro q2 (And.intro q3 (And.intro q4 (And.intro q5 q6)))))
                 have hc6 : ∀ k, w6.cell? ⟨bb, k, none⟩ = W.cell? ⟨bb, k, none⟩ := fun k => by unfold World.cell?; simp only [q7 bb HBL.out]
                 have z0 := (hc6 oy).trans g1
                 have z1 := (hc6 (oy + 1)).trans g2
                 have z2 := (hc6 (oy + 2)).trans g3
                 obtain ⟨A6, c6, rfl, -⟩ := own_sps ho6
                 have k6 := q8.cell
                 have f6 := q8.frozen
                 clear q1 q2 q3 q4 q5 q6 q7 q8 ho6 hg6 hc6
                 generalize hn6 : (ls ++ [(⟨za, zb, zc⟩ : Sp)]).length = n6 at *
                 have HN6 := Lib.hid hn6
                 clear hn6
                 refine hK.out _ _ (⟨z0, z1, z2⟩) (fun hHeld => ?_)
                 clear hK K'
                 refine wpAnyH_ready (rs := [13]) (by kernel_rfl) (by simp) ?_
                 refine AllReadyH.cons (o := { dst := none, op := Op.store 28 (Operand.tmp 13) (Operand.tmp 69), type := 0, pos := _, after := _, guard := none }) rfl (fun K' hK => ?_) AllReadyH.nil
                 go_simp
                 refine hK.out _ _ (⟨(((Below.refl W3.heap.size w6).setCell (p := ⟨W3.heap.size, 0, none⟩) (Nat.le_refl _) _).cell (p := ⟨bb, oy, none⟩) HBB.out).trans z0, (((Below.refl W3.heap.size w6).setCell (p := ⟨W3.heap.size, 0, none⟩) (Nat.le_refl _) _).cell (p := ⟨bb, oy + 1, none⟩) HBB.out).trans z1, (((Below.refl W3.heap.size w6).setCell (p := ⟨W3.heap.size, 0, none⟩) (Nat.le_refl _) _).cell (p := ⟨bb, oy + 2, none⟩) HBB.out).trans z2⟩) (fun hHeld => ?_)
                 clear hK K'
                 refine wpAnyH_done (by kernel_rfl) ?_ _
                 obtain ⟨q1, q2, q3, q4, q5, q6⟩ := HQ.out
                 refine ⟨q1, q2, ⟨_, q3, ?_, trivial⟩, q5, q6⟩
                 simp only [HPRE.out, HN6.out]
                 exact q4
               · go_simp
                 refine hK.out _ _ (⟨a0, a1, a2⟩) (fun hHeld => ?_)
                 clear hK K'
                 refine wpAnyH_ready (rs := [0]) (by kernel_rfl) (by simp) ?_
                 refine AllReadyH.cons (o := { dst := some 57, op := Op.load 28 (Operand.tmp 13), type := 28, pos := _, after := _, guard := none }) rfl (fun K' hK => ?_) AllReadyH.nil
                 go_simp
                 refine hK.out _ _ (⟨a0, a1, a2⟩) (fun hHeld => ?_)
                 clear hK K'
                 refine wpAnyH_ready (rs := [12]) (by kernel_rfl) (by simp) ?_
                 refine AllReadyH.cons (o := { dst := some 69, op := Op.call { callee := Callee.builtin Builtin.append, args := #[Operand.tmp 57, Operand.tmp 68], argTypes := #[28, 28] }, type := 28, pos := _, after := _, guard := none }) rfl (fun K' hK => ?_) AllReadyH.nil
                 refine step_pushG rfl (.tmp 57) (.tmp 68) rfl W0.heap.size W.drew v ls ⟨za, zb, zc⟩ rfl rfl HR3.out hpl HSZ.out ?_
                 intro v6 w6 ho6 hg6
                 obtain ⟨q1, q2, q3, q4, q5, q6, q7, q8⟩ := HSE.out w6 v6 hg6 ho6
                 have HQ := Lib.hid (And.intro q1 (And.intro q2 (And.intro q3 (And.intro q4 (And.intro q5 q6)))))
                 have hc6 : ∀ k, w6.cell? ⟨bb, k, none⟩ = W.cell? ⟨bb, k, none⟩ := fun k => by unfold World.cell?; simp only [q7 bb HBL.out]
                 have z0 := (hc6 oy).trans g1
                 have z1 := (hc6 (oy + 1)).trans g2
                 have z2 := (hc6 (oy + 2)).trans g3
                 obtain ⟨A6, c6, rfl, -⟩ := own_sps ho6
                 have k6 := q8.cell
                 have f6 := q8.frozen
                 clear q1 q2 q3 q4 q5 q6 q7 q8 ho6 hg6 hc6
                 generalize hn6 : (ls ++ [(⟨za, zb, zc⟩ : Sp)]).length = n6 at *
                 have HN6 := Lib.hid hn6
                 clear hn6
                 refine hK.out _ _ (⟨z0, z1, z2⟩) (fun hHeld => ?_)
                 clear hK K'
                 refine wpAnyH_ready (rs := [13]) (by kernel_rfl) (by simp) ?_
                 refine AllReadyH.cons (o := { dst := none, op := Op.store 28 (Operand.tmp 13) (Operand.tmp 69), type := 0, pos := _, after := _, guard := none }) rfl (fun K' hK => ?_) AllReadyH.nil
                 go_simp
                 refine hK.out _ _ (⟨(((Below.refl W3.heap.size w6).setCell (p := ⟨W3.heap.size, 0, none⟩) (Nat.le_refl _) _).cell (p := ⟨bb, oy, none⟩) HBB.out).trans z0, (((Below.refl W3.heap.size w6).setCell (p := ⟨W3.heap.size, 0, none⟩) (Nat.le_refl _) _).cell (p := ⟨bb, oy + 1, none⟩) HBB.out).trans z1, (((Below.refl W3.heap.size w6).setCell (p := ⟨W3.heap.size, 0, none⟩) (Nat.le_refl _) _).cell (p := ⟨bb, oy + 2, none⟩) HBB.out).trans z2⟩) (fun hHeld => ?_)
                 clear hK K'
                 refine wpAnyH_done (by kernel_rfl) ?_ _
                 obtain ⟨q1, q2, q3, q4, q5, q6⟩ := HQ.out
                 refine ⟨q1, q2, ⟨_, q3, ?_, trivial⟩, q5, q6⟩
                 simp only [HPRE.out, HN6.out]
                 exact q4
             case doneTA =>
               rintro D xs W hD rfl ⟨⟨v, hbox, hrow, -⟩, hsz', hb'⟩ hK
               have hc0 := hbox.cell
               rw [firsts_grp] at hrow
               rw [← HG.out] at hrow
               obtain ⟨A6, c6, rfl, hc6⟩ := own_sps hrow
               have HROW := Lib.hid hrow
               have HB := Lib.hid hb'
               have HBOX := Lib.hid hbox
               have hsp := SpsAt.of_own hrow rfl (fun z hz => small_fit (spU_small (HGF.out z hz)))
               rw [HGL.out] at hsp HROW hc0
               have HBO := Lib.hid (blockof_any A6 q c6 W.heap.size (grpB s) 0 W hsp (Nat.le_refl _) (by omega) HXF.out)
               have HK := Lib.hid hK
               clear hrow hb' hbox hsp
               gi_wp2_with fail
               refine ⟨trivial, ?_⟩
               refine (callsIn_wide.2 HBO.out).mono ?_
               rintro e w5 ⟨rfl, b5⟩
               have HB5 := Lib.hid b5
               have HBOX5 := Lib.hid ((b5.block _ HBOX.out.lt).trans HBOX.out)
               rw [HGL.out] at HBOX5
               have hc5 : w5.cell? ⟨W3.heap.size, 0, none⟩ = some (.slice A6 q c6) := Boxed.cell HBOX5.out
               have HK5 : w5.heap[D]? = some (.deferred (some [])) := (b5.block D (Array.getElem?_eq_some_iff.1 hK).1).trans hK
               have HBF : Hid (Below w.heap.size w w5) := by
                 have h1 := HWB.out.trans (HB.out.mono HWB.out.size)
                 exact h1.trans (HB5.out.mono h1.size)
               clear b5 hc0
               by_cases hs : blockB (grpB s) 0 = s
               · rw [hs] at HOK ⊢
                 have HY : Hid (blkOk s = true) := by show _ = _; rw [HOK.out]; simp
                 clear hs
                 gi_wp2
                 refine ⟨by simp, .inl ⟨_, _, rfl, run_takeDeferred HK5, ?_⟩⟩
                 refine ⟨.tuple #[.slice A6 q c6, .int .i64 0, .int .i64 0], (by simp [results, Tryz.results76, go_sem]), ?_⟩
                 unfold RetRb
                 rw [if_pos HY.out, HNN.out, HGL.out]
                 refine ⟨_, rfl, ?_, ?_⟩
                 · exact own_base ((own_below HROW.out HB5.out (Nat.le_refl _)).kept (grownBy_putObj' w5 D _) (Or.inr fun e => by obtain ⟨cs, hcs⟩ := row_tag (own_below HROW.out HB5.out (Nat.le_refl _)) e; rw [HK5] at hcs; cases hcs)) (by omega)
                 · exact HBF.out.trans (belowK_b (w := w) (Nat.le_refl _) w5 D _ _ (by omega) HK5 rfl rfl)
               · have HNO : Hid (blkOk s = false) := by show _ = _; rw [HOK.out]; exact decide_eq_false hs
                 have hs2 : ((blockB (grpB s) 0).toList == s.toList) = false := (by rw [Kr.lists_eq, decide_eq_false hs])
                 clear hs
                 generalize blockB (grpB s) 0 = sb at *
                 gi_wp2
                 refine ⟨by simp, .inl ⟨_, _, rfl, run_takeDeferred HK5, ?_⟩⟩
                 refine ⟨.tuple #[.slice none 0 0, .int .i64 0, .int .i64 15], (by simp [results, Tryz.results76, go_sem]), ?_⟩
                 exact ret_rb_no HNO.out rfl (HBF.out.trans (belowK_b (w := w) (Nat.le_refl _) w5 D _ _ (by omega) HK5 rfl rfl))
             case stopTA =>
               rintro D c pre W _ _ h _
               exact h.elim)
      · gi_wp2_with fail
        all_goals first
          | (rename_i q1 q2; exact absurd (Option.some.inj q1) (by intro q; cases q))
          | (refine ⟨trivial, ?_⟩
             gi_wp2_with fail
             refine ⟨trivial, ?_⟩
             refine (callsIn_wide.2 (Ci.chunk_any _ _ _ _)).mono ?_
             rintro e w' ⟨rfl, rfl⟩
             obtain ⟨W0, hW0⟩ : ∃ W0, ((W3.alloc (.cells #[.slice none 0 0] 28)).alloc (.cells #[.slice (some ⟨bb, o + 1, none⟩) 60 (c3 - 1)] 27)).alloc (.cells #[.int .i64 3] 3) = W0 := ⟨_, rfl⟩
             have e1 : (W3.alloc (.cells #[.slice none 0 0] 28)).heap.size = W3.heap.size + 1 := by simp
             have e2 : ((W3.alloc (.cells #[.slice none 0 0] 28)).alloc (.cells #[.slice (some ⟨bb, o + 1, none⟩) 60 (c3 - 1)] 27)).heap.size = W3.heap.size + 1 + 1 := by simp
             have hsz : W0.heap.size = W3.heap.size + 1 + 1 + 1 := by rw [← hW0]; simp
             have hbP : Boxed W0 W3.heap.size 28 (.slice none 0 0) := by rw [← hW0]; exact ((Boxed.new W3 28 _).alloc _).alloc _
             have hb1 : Boxed W0 (W3.heap.size + 1) 27 (.slice (some ⟨bb, o + 1, none⟩) 60 (c3 - 1)) := by
               rw [← hW0]
               have := (Boxed.new (W3.alloc (.cells #[.slice none 0 0] 28)) 27 (.slice (some ⟨bb, o + 1, none⟩) 60 (c3 - 1))).alloc (.cells #[.int .i64 3] 3)
               rwa [e1] at this
             have hb2 : Boxed W0 (W3.heap.size + 1 + 1) 3 (.int .i64 3) := by
               rw [← hW0]
               have := Boxed.new ((W3.alloc (.cells #[.slice none 0 0] 28)).alloc (.cells #[.slice (some ⟨bb, o + 1, none⟩) 60 (c3 - 1)] 27)) 3 (.int .i64 3)
               rwa [e2] at this
             have hB30 : Below W3.heap.size W3 W0 := by
               rw [← hW0]
               exact (((Below.refl _ _).alloc (Nat.le_refl _) _).alloc (by rw [e1]; omega) _).alloc (by rw [e2]; omega) _
             have hW3 := HB3D.out.size
             have hB0 : Below w.heap.size w W0 := HB3D.out.trans (hB30.mono hW3)
             have HI0 := Lib.hid (HI3D.out.below hB30 (Nat.le_refl _))
             rw [hW0, e1]
             have HBB := Lib.hid hbbd
             clear hW0 e1 e2 hbbd
             gi_wp2
             have HWB : Hid (Below w.heap.size w W3) := HB3D
             have hm3 : ∀ k, k < 20 ↔ 3 * k < 60 := fun k => by omega
             refine wpIn_rangeFunc_ownF rfl (by omega) (gf := 139) (lb := #[.pointer (some ⟨W3.heap.size + 1, 0, none⟩), .pointer (some ⟨W3.heap.size + 1 + 1, 0, none⟩)]) rfl trivial (enters_of Tryz.func139 (by kernel_rfl) rfl)
               (Ci.iterC_stops Fence.wide _ trivial rfl (by omega) (W3.heap.size + 1) (W3.heap.size + 1 + 1) bb (o + 1) 20 60 (c3 - 1) (by omega) (by omega) hm3 W0 hb1 hb2) Ci.KpC.t (Ci.KpC.b (by omega) (by omega)) (Below.refl _ _) (fun _ => rfl)
               (GrpAt W3 W0.heap.size W3.heap.size (rvs s) (q := 20)) (fun _ _ _ => False) (GrpAt.own W3 _ _ _ (by omega)) (fun _ _ _ _ _ hs _ _ => hs)
               ⟨⟨_, hbP, World.ownsRow_nil _ _ _ _, trivial⟩, Nat.le_refl _, hB30⟩
               (fun x => { tmps := #[.pointer (some ⟨d, 0, none⟩), .int .i64 i, undef, undef, .slice none 0 0, .int .i64 0, .int .i64 0, .string s, .int .i64 0, .slice (some ⟨bb, o, none⟩) 67 c3, .int .i64 0, .int .i64 20, .int .i64 nx, .pointer (some ⟨W3.heap.size, 0, none⟩), .slice (some ⟨bb, o + 1 + 3 * x.1, none⟩) (lenC 60 x.1) (lenC 60 x.1), .tuple #[.string s, .int .i64 0], .pointer (some ⟨d, 0, none⟩), .int .i64 i, .tuple #[.string s, .int .i64 0], .string s, .int .i64 0, .tuple #[.slice (some ⟨bb, o, none⟩) 67 c3, .int .i64 0], .slice A2 67 c2, .string s, .tuple #[.slice (some ⟨bb, o, none⟩) 67 c3, .int .i64 0], .slice (some ⟨bb, o, none⟩) 67 c3, .int .i64 0, .slice (some ⟨bb, o, none⟩) 67 c3, .pointer (some ⟨bb, o, none⟩), .int .i64 20, .slice (some ⟨bb, o, none⟩) 67 c3, .slice (some ⟨bb, o, none⟩) 67 c3, .int .i64 67, .int .i64 66, .pointer (some ⟨bb, o + 66, none⟩), .int .i64 nx, .int .i64 20, .bool false, .bool false, .int .i64 20, .bool false, .bool false, .bool false, .int .i64 20, .bool false, .bool false, undef, undef, .bool false, .bool false, .slice (some ⟨bb, o, none⟩) 67 c3, .int .i64 20, .int .i64 60, .int .i64 61, .slice (some ⟨bb, o + 1, none⟩) 60 (c3 - 1), .func (.func 139) #[] #[.pointer (some ⟨W3.heap.size + 1, 0, none⟩), .pointer (some ⟨W3.heap.size + 1 + 1, 0, none⟩)], .slice (some ⟨bb, o + 1 + 3 * x.1, none⟩) (lenC 60 x.1) (lenC 60 x.1), undef, undef, undef, undef, undef, undef, undef, undef, undef, undef, undef, undef, undef, undef, undef, undef, undef, undef, undef, undef], defers := [] })
               ?assignTB ?bodyTB ?doneTB ?stopTB
             case assignTB =>
               intro l x W K hK
               simp only [chunkV]
               gi_wp2
               exact hK
             case bodyTB =>
               rintro lr pre x W ⟨⟨v, hbox, hrow, -⟩, hsz', hb'⟩ hpq
               have hxq : x.1 < 20 := x.2
               have hL3 : lenC 60 x.1 = 3 := by unfold lenC; omega
               have hIW := HI3D.out.below hb' (Nat.le_refl _)
               obtain ⟨b2, o2, e2, hb2l, g1⟩ := hIW.at_ (k := 1 + 3 * x.1) (by omega)
               obtain ⟨rfl, rfl⟩ : bb = b2 ∧ o = o2 := by injection e2 with e2; injection e2 with e3 e4; exact ⟨e3, e4⟩
               obtain ⟨_, _, e2', _, g2⟩ := hIW.at_ (k := 2 + 3 * x.1) (by omega)
               injection e2' with e2'; injection e2' with e3 e4; subst e3; subst e4
               obtain ⟨_, _, e2', _, g3⟩ := hIW.at_ (k := 3 + 3 * x.1) (by omega)
               injection e2' with e2'; injection e2' with e3 e4; subst e3; subst e4
               have HPRE : Hid (((pre ++ [x]).map fun x : Fin 20 => (⟨(rvs s).getD (1 + 3 * x.1) 0, (rvs s).getD (2 + 3 * x.1) 0, (rvs s).getD (3 + 3 * x.1) 0⟩ : Sp)) = (pre.map fun x : Fin 20 => (⟨(rvs s).getD (1 + 3 * x.1) 0, (rvs s).getD (2 + 3 * x.1) 0, (rvs s).getD (3 + 3 * x.1) 0⟩ : Sp)) ++ [⟨(rvs s).getD (1 + 3 * x.1) 0, (rvs s).getD (2 + 3 * x.1) 0, (rvs s).getD (3 + 3 * x.1) 0⟩]) := by show _ = _; simp
               have hpl : (pre.map fun x : Fin 20 => (⟨(rvs s).getD (1 + 3 * x.1) 0, (rvs s).getD (2 + 3 * x.1) 0, (rvs s).getD (3 + 3 * x.1) 0⟩ : Sp)).length ≤ 100000 := by rw [List.length_map]; omega
               have HSE := Lib.hid (fun W6 v' hg hr => grp_end (w := W3) (W := W) (W6 := W6) (N := W0.heap.size) (p := W3.heap.size) (B1 := W3.heap.size + 1) (B2 := W3.heap.size + 1 + 1) (v := v) (v' := v') (ls := (pre.map fun x : Fin 20 => (⟨(rvs s).getD (1 + 3 * x.1) 0, (rvs s).getD (2 + 3 * x.1) 0, (rvs s).getD (3 + 3 * x.1) 0⟩ : Sp))) (z := ⟨(rvs s).getD (1 + 3 * x.1) 0, (rvs s).getD (2 + 3 * x.1) 0, (rvs s).getD (3 + 3 * x.1) 0⟩) hbox hrow hsz' hb' (Nat.le_refl _) (by omega) (by omega) (by omega) (by omega) (by omega) hg hr)
               have HROW := Lib.hid hrow
               have HBOX := Lib.hid hbox
               have HSZ := Lib.hid hsz'
               have HBL : Hid (bb < W0.heap.size) := by show _ < _; have := HBB.out; omega
               rw [show o + (1 + 3 * x.1) = o + 1 + 3 * x.1 by omega] at g1
               rw [show o + (2 + 3 * x.1) = o + 1 + 3 * x.1 + 1 by omega] at g2
               rw [show o + (3 + 3 * x.1) = o + 1 + 3 * x.1 + 2 by omega] at g3
               rw [hL3]
               unfold GrpAt
               generalize (pre.map fun x : Fin 20 => (⟨(rvs s).getD (1 + 3 * x.1) 0, (rvs s).getD (2 + 3 * x.1) 0, (rvs s).getD (3 + 3 * x.1) 0⟩ : Sp)) = ls at *
               generalize (rvs s).getD (1 + 3 * x.1) 0 = za at *
               generalize (rvs s).getD (2 + 3 * x.1) 0 = zb at *
               generalize (rvs s).getD (3 + 3 * x.1) 0 = zc at *
               have hx3 : o + 1 + 3 * x.1 = o + 1 + 3 * x.1 := rfl
               generalize o + 1 + 3 * x.1 = oy at *
               clear hx3 hbox hrow hsz' hb' hIW hL3 hb2l
               have kP : W.drew.cell? ⟨W3.heap.size, 0, none⟩ = some v := HBOX.out.cell
               have kA : (W.drew.alloc (.cells #[.int .i64 za, .int .i64 zb, .int .i64 zc] 85)).cell? ⟨W3.heap.size, 0, none⟩ = some v := (HBOX.out.alloc _).cell
               have kA2 : (W.alloc (.cells #[.int .i64 za, .int .i64 zb, .int .i64 zc] 85)).drew.cell? ⟨W3.heap.size, 0, none⟩ = some v := kA
               have y0 : W.drew.cell? ⟨bb, oy, none⟩ = some (.int .i64 za) := g1
               have y1 : W.drew.cell? ⟨bb, oy + 1, none⟩ = some (.int .i64 zb) := g2
               have y2 : W.drew.cell? ⟨bb, oy + 2, none⟩ = some (.int .i64 zc) := g3
               have hbw : bb < W.drew.heap.size := Nat.lt_of_lt_of_le HBL.out HSZ.out
               have a0 : (W.drew.alloc (.cells #[.int .i64 za, .int .i64 zb, .int .i64 zc] 85)).cell? ⟨bb, oy, none⟩ = some (.int .i64 za) := (World.cell?_alloc_lt _ _ ⟨bb, oy, none⟩ hbw).trans y0
               have a1 : (W.drew.alloc (.cells #[.int .i64 za, .int .i64 zb, .int .i64 zc] 85)).cell? ⟨bb, oy + 1, none⟩ = some (.int .i64 zb) := (World.cell?_alloc_lt _ _ ⟨bb, oy + 1, none⟩ hbw).trans y1
               have a2 : (W.drew.alloc (.cells #[.int .i64 za, .int .i64 zb, .int .i64 zc] 85)).cell? ⟨bb, oy + 2, none⟩ = some (.int .i64 zc) := (World.cell?_alloc_lt _ _ ⟨bb, oy + 2, none⟩ hbw).trans y2
               have HR3 : Hid (W.drew.ownsRow W0.heap.size 85 3 v ls.length (spsCells ls)) := own_below HROW.out (w' := W.drew) ⟨rfl, rfl, rfl, Nat.le_refl _, fun _ _ => rfl⟩ (Nat.le_refl _)
               have hmx : Tryz.prog.follows .mixedOrders = true := by kernel_rfl
               gi_wp2
               refine region_round (S := fun v => v.cell? ⟨bb, oy, none⟩ = some (.int .i64 za) ∧ v.cell? ⟨bb, oy + 1, none⟩ = some (.int .i64 zb) ∧ v.cell? ⟨bb, oy + 2, none⟩ = some (.int .i64 zc)) hmx (noDefer_t (by kernel_rfl)) (fun _ _ h => h) ⟨y0, y1, y2⟩ (fun hHeld => ?_)
               refine wpAnyH_take (i := 1) (oi := { dst := some 58, op := Op.move (Operand.tmp 14), type := 27, pos := _, after := _, guard := none }) (v := ?vr21) rfl (by kernel_rfl) (by kernel_rfl) (by kernel_rfl) (fun _ _ _ h => h) (Or.inl ⟨by rfl, ?hyr21⟩) (by assumption) ?restr21
               case hyr21 => (intro w hSw; (try dsimp only at hSw); go_simp <;> with_reducible rfl)
               simp only [Act.put, List.setIfInBounds_toArray, List.set_cons_zero, List.set_cons_succ]
               refine wpAnyH_take (i := 2) (oi := { dst := some 59, op := Op.indexAddr 27 (Operand.tmp 58) (Operand.const (Value.int IntKind.i64 0)), type := 0, pos := _, after := _, guard := none }) (v := ?vr22) rfl (by kernel_rfl) (by kernel_rfl) (by kernel_rfl) (fun _ _ _ h => h) (Or.inl ⟨by rfl, ?hyr22⟩) (by assumption) ?restr22
               case hyr22 => (intro w hSw; (try dsimp only at hSw); go_simp <;> with_reducible rfl)
               simp only [Act.put, List.setIfInBounds_toArray, List.set_cons_zero, List.set_cons_succ]
               refine wpAnyH_take (i := 3) (oi := { dst := some 60, op := Op.load 3 (Operand.tmp 59), type := 3, pos := _, after := _, guard := none }) (v := ?vr23) rfl (by kernel_rfl) (by kernel_rfl) (by kernel_rfl) (fun _ _ _ h => h) (Or.inl ⟨by rfl, ?hyr23⟩) (by assumption) ?restr23
               case hyr23 => (intro w hSw; (try dsimp only at hSw); go_simp <;> with_reducible rfl)
               simp only [Act.put, List.setIfInBounds_toArray, List.set_cons_zero, List.set_cons_succ]
               refine wpAnyH_take (i := 4) (oi := { dst := some 61, op := Op.move (Operand.tmp 14), type := 27, pos := _, after := _, guard := none }) (v := ?vr24) rfl (by kernel_rfl) (by kernel_rfl) (by kernel_rfl) (fun _ _ _ h => h) (Or.inl ⟨by rfl, ?hyr24⟩) (by assumption) ?restr24
               case hyr24 => (intro w hSw; (try dsimp only at hSw); go_simp <;> with_reducible rfl)
               simp only [Act.put, List.setIfInBounds_toArray, List.set_cons_zero, List.set_cons_succ]
               refine wpAnyH_take (i := 5) (oi := { dst := some 62, op := Op.indexAddr 27 (Operand.tmp 61) (Operand.const (Value.int IntKind.i64 1)), type := 0, pos := _, after := _, guard := none }) (v := ?vr25) rfl (by kernel_rfl) (by kernel_rfl) (by kernel_rfl) (fun _ _ _ h => h) (Or.inl ⟨by rfl, ?hyr25⟩) (by assumption) ?restr25
               case hyr25 => (intro w hSw; (try dsimp only at hSw); go_simp <;> with_reducible rfl)
               simp only [Act.put, List.setIfInBounds_toArray, List.set_cons_zero, List.set_cons_succ]
               refine wpAnyH_take (i := 6) (oi := { dst := some 63, op := Op.load 3 (Operand.tmp 62), type := 3, pos := _, after := _, guard := none }) (v := ?vr26) rfl (by kernel_rfl) (by kernel_rfl) (by kernel_rfl) (fun _ _ _ h => h) (Or.inl ⟨by rfl, ?hyr26⟩) (by assumption) ?restr26
               case hyr26 => (intro w hSw; (try dsimp only at hSw); go_simp <;> with_reducible rfl)
               simp only [Act.put, List.setIfInBounds_toArray, List.set_cons_zero, List.set_cons_succ]
               refine wpAnyH_take (i := 7) (oi := { dst := some 64, op := Op.move (Operand.tmp 14), type := 27, pos := _, after := _, guard := none }) (v := ?vr27) rfl (by kernel_rfl) (by kernel_rfl) (by kernel_rfl) (fun _ _ _ h => h) (Or.inl ⟨by rfl, ?hyr27⟩) (by assumption) ?restr27
               case hyr27 => (intro w hSw; (try dsimp only at hSw); go_simp <;> with_reducible rfl)
               simp only [Act.put, List.setIfInBounds_toArray, List.set_cons_zero, List.set_cons_succ]
               refine wpAnyH_take (i := 8) (oi := { dst := some 65, op := Op.indexAddr 27 (Operand.tmp 64) (Operand.const (Value.int IntKind.i64 2)), type := 0, pos := _, after := _, guard := none }) (v := ?vr28) rfl (by kernel_rfl) (by kernel_rfl) (by kernel_rfl) (fun _ _ _ h => h) (Or.inl ⟨by rfl, ?hyr28⟩) (by assumption) ?restr28
               case hyr28 => (intro w hSw; (try dsimp only at hSw); go_simp <;> with_reducible rfl)
               simp only [Act.put, List.setIfInBounds_toArray, List.set_cons_zero, List.set_cons_succ]
               refine wpAnyH_take (i := 9) (oi := { dst := some 66, op := Op.load 3 (Operand.tmp 65), type := 3, pos := _, after := _, guard := none }) (v := ?vr29) rfl (by kernel_rfl) (by kernel_rfl) (by kernel_rfl) (fun _ _ _ h => h) (Or.inl ⟨by rfl, ?hyr29⟩) (by assumption) ?restr29
               case hyr29 => (intro w hSw; (try dsimp only at hSw); go_simp <;> with_reducible rfl)
               simp only [Act.put, List.setIfInBounds_toArray, List.set_cons_zero, List.set_cons_succ]
               refine wpAnyH_take (i := 10) (oi := { dst := some 67, op := Op.build 85 #[(0, Operand.tmp 60), (1, Operand.tmp 63), (2, Operand.tmp 66)], type := 85, pos := _, after := _, guard := none }) (v := ?vr210) rfl (by kernel_rfl) (by kernel_rfl) (by kernel_rfl) (fun _ _ _ h => h) (Or.inl ⟨by rfl, ?hyr210⟩) (by assumption) ?restr210
               case hyr210 => (intro w hSw; (try dsimp only at hSw); go_simp <;> with_reducible rfl)
               simp only [Act.put, List.setIfInBounds_toArray, List.set_cons_zero, List.set_cons_succ]
               refine wpAnyH_ready (rs := [0, 11]) (by kernel_rfl) (by simp) ?_
               refine AllReadyH.cons (o := { dst := some 57, op := Op.load 28 (Operand.tmp 13), type := 28, pos := _, after := _, guard := none }) rfl (fun K' hK => ?_) (AllReadyH.cons (o := { dst := some 68, op := Op.buildSlice 28 1 #[(0, Operand.tmp 67)], type := 28, pos := _, after := _, guard := none }) rfl (fun K' hK => ?_) AllReadyH.nil)
               · go_simp
                 refine hK.out _ _ (⟨y0, y1, y2⟩) (fun hHeld => ?_)
                 clear hK K'
                 refine wpAnyH_ready (rs := [11]) (by kernel_rfl) (by simp) ?_
                 refine AllReadyH.cons (o := { dst := some 68, op := Op.buildSlice 28 1 #[(0, Operand.tmp 67)], type := 28, pos := _, after := _, guard := none }) rfl (fun K' hK => ?_) AllReadyH.nil
                 go_simp
                 refine hK.out _ _ (⟨a0, a1, a2⟩) (fun hHeld => ?_)
                 clear hK K'
                 refine wpAnyH_ready (rs := [12]) (by kernel_rfl) (by simp) ?_
                 refine AllReadyH.cons (o := { dst := some 69, op := Op.call { callee := Callee.builtin Builtin.append, args := #[Operand.tmp 57, Operand.tmp 68], argTypes := #[28, 28] }, type := 28, pos := _, after := _, guard := none }) rfl (fun K' hK => ?_) AllReadyH.nil
                 refine step_pushG rfl (.tmp 57) (.tmp 68) rfl W0.heap.size W.drew v ls ⟨za, zb, zc⟩ rfl rfl HR3.out hpl HSZ.out ?_
                 intro v6 w6 ho6 hg6
                 obtain ⟨q1, q2, q3, q4, q5, q6, q7, q8⟩ := HSE.out w6 v6 hg6 ho6
                 have HQ := Lib.hid (And.intro q1 (And.intro q2 (And.intro q3 (And.intro q4 (And.intro q5 q6)))))
                 have hc6 : ∀ k, w6.cell? ⟨bb, k, none⟩ = W.cell? ⟨bb, k, none⟩ := fun k => by unfold World.cell?; simp only [q7 bb HBL.out]
                 have z0 := (hc6 oy).trans g1
                 have z1 := (hc6 (oy + 1)).trans g2
                 have z2 := (hc6 (oy + 2)).trans g3
                 obtain ⟨A6, c6, rfl, -⟩ := own_sps ho6
                 have k6 := q8.cell
                 have f6 := q8.frozen
                 clear q1 q2 q3 q4 q5 q6 q7 q8 ho6 hg6 hc6
                 generalize hn6 : (ls ++ [(⟨za, zb, zc⟩ : Sp)]).length = n6 at *
                 have HN6 := Lib.hid hn6
                 clear hn6
                 refine hK.out _ _ (⟨z0, z1, z2⟩) (fun hHeld => ?_)
                 clear hK K'
                 refine wpAnyH_ready (rs := [13]) (by kernel_rfl) (by simp) ?_
                 refine AllReadyH.cons (o := { dst := none, op := Op.store 28 (Operand.tmp 13) (Operand.tmp 69), type := 0, pos := _, after := _, guard := none }) rfl (fun K' hK => ?_) AllReadyH.nil
                 go_simp
                 refine hK.out _ _ (⟨(((Below.refl W3.heap.size w6).setCell (p := ⟨W3.heap.size, 0, none⟩) (Nat.le_refl _) _).cell (p := ⟨bb, oy, none⟩) HBB.out).trans z0, (((Below.refl W3.heap.size w6).setCell (p := ⟨W3.heap.size, 0, none⟩) (Nat.le_refl _) _).cell (p := ⟨bb, oy + 1, none⟩) HBB.out).trans z1, (((Below.refl W3.heap.size w6).setCell (p := ⟨W3.heap.size, 0, none⟩) (Nat.le_refl _) _).cell (p := ⟨bb, oy + 2, none⟩) HBB.out).trans z2⟩) (fun hHeld => ?_)
                 clear hK K'
                 refine wpAnyH_done (by kernel_rfl) ?_ _
                 obtain ⟨q1, q2, q3, q4, q5, q6⟩ := HQ.out
                 refine ⟨q1, q2, ⟨_, q3, ?_, trivial⟩, q5, q6⟩
                 simp only [HPRE.out, HN6.out]
                 exact q4
               · go_simp
                 refine hK.out _ _ (⟨a0, a1, a2⟩) (fun hHeld => ?_)
                 clear hK K'
                 refine wpAnyH_ready (rs := [0]) (by kernel_rfl) (by simp) ?_
                 refine AllReadyH.cons (o := { dst := some 57, op := Op.load 28 (Operand.tmp 13), type := 28, pos := _, after := _, guard := none }) rfl (fun K' hK => ?_) AllReadyH.nil
                 go_simp
                 refine hK.out _ _ (⟨a0, a1, a2⟩) (fun hHeld => ?_)
                 clear hK K'
                 refine wpAnyH_ready (rs := [12]) (by kernel_rfl) (by simp) ?_
                 refine AllReadyH.cons (o := { dst := some 69, op := Op.call { callee := Callee.builtin Builtin.append, args := #[Operand.tmp 57, Operand.tmp 68], argTypes := #[28, 28] }, type := 28, pos := _, after := _, guard := none }) rfl (fun K' hK => ?_) AllReadyH.nil
                 refine step_pushG rfl (.tmp 57) (.tmp 68) rfl W0.heap.size W.drew v ls ⟨za, zb, zc⟩ rfl rfl HR3.out hpl HSZ.out ?_
                 intro v6 w6 ho6 hg6
                 obtain ⟨q1, q2, q3, q4, q5, q6, q7, q8⟩ := HSE.out w6 v6 hg6 ho6
                 have HQ := Lib.hid (And.intro q1 (And.intro q2 (And.intro q3 (And.intro q4 (And.intro q5 q6)))))
                 have hc6 : ∀ k, w6.cell? ⟨bb, k, none⟩ = W.cell? ⟨bb, k, none⟩ := fun k => by unfold World.cell?; simp only [q7 bb HBL.out]
                 have z0 := (hc6 oy).trans g1
                 have z1 := (hc6 (oy + 1)).trans g2
                 have z2 := (hc6 (oy + 2)).trans g3
                 obtain ⟨A6, c6, rfl, -⟩ := own_sps ho6
                 have k6 := q8.cell
                 have f6 := q8.frozen
                 clear q1 q2 q3 q4 q5 q6 q7 q8 ho6 hg6 hc6
                 generalize hn6 : (ls ++ [(⟨za, zb, zc⟩ : Sp)]).length = n6 at *
                 have HN6 := Lib.hid hn6
                 clear hn6
                 refine hK.out _ _ (⟨z0, z1, z2⟩) (fun hHeld => ?_)
                 clear hK K'
                 refine wpAnyH_ready (rs := [13]) (by kernel_rfl) (by simp) ?_
                 refine AllReadyH.cons (o := { dst := none, op := Op.store 28 (Operand.tmp 13) (Operand.tmp 69), type := 0, pos := _, after := _, guard := none }) rfl (fun K' hK => ?_) AllReadyH.nil
                 go_simp
                 refine hK.out _ _ (⟨(((Below.refl W3.heap.size w6).setCell (p := ⟨W3.heap.size, 0, none⟩) (Nat.le_refl _) _).cell (p := ⟨bb, oy, none⟩) HBB.out).trans z0, (((Below.refl W3.heap.size w6).setCell (p := ⟨W3.heap.size, 0, none⟩) (Nat.le_refl _) _).cell (p := ⟨bb, oy + 1, none⟩) HBB.out).trans z1, (((Below.refl W3.heap.size w6).setCell (p := ⟨W3.heap.size, 0, none⟩) (Nat.le_refl _) _).cell (p := ⟨bb, oy + 2, none⟩) HBB.out).trans z2⟩) (fun hHeld => ?_)
                 clear hK K'
                 refine wpAnyH_done (by kernel_rfl) ?_ _
                 obtain ⟨q1, q2, q3, q4, q5, q6⟩ := HQ.out
                 refine ⟨q1, q2, ⟨_, q3, ?_, trivial⟩, q5, q6⟩
                 simp only [HPRE.out, HN6.out]
                 exact q4
             case doneTB =>
               rintro D xs W hD rfl ⟨⟨v, hbox, hrow, -⟩, hsz', hb'⟩ hK
               have hc0 := hbox.cell
               rw [firsts_grp] at hrow
               rw [← HG.out] at hrow
               obtain ⟨A6, c6, rfl, hc6⟩ := own_sps hrow
               have HROW := Lib.hid hrow
               have HB := Lib.hid hb'
               have HBOX := Lib.hid hbox
               have hsp := SpsAt.of_own hrow rfl (fun z hz => small_fit (spU_small (HGF.out z hz)))
               rw [HGL.out] at hsp HROW hc0
               have HBO := Lib.hid (blockof_any A6 20 c6 W.heap.size (grpB s) nx W hsp (Nat.le_refl _) (by omega) HXF.out)
               have HK := Lib.hid hK
               clear hrow hb' hbox hsp
               gi_wp2_with fail
               refine ⟨trivial, ?_⟩
               refine (callsIn_wide.2 HBO.out).mono ?_
               rintro e w5 ⟨rfl, b5⟩
               have HB5 := Lib.hid b5
               have HBOX5 := Lib.hid ((b5.block _ HBOX.out.lt).trans HBOX.out)
               rw [HGL.out] at HBOX5
               have hc5 : w5.cell? ⟨W3.heap.size, 0, none⟩ = some (.slice A6 20 c6) := Boxed.cell HBOX5.out
               have HK5 : w5.heap[D]? = some (.deferred (some [])) := (b5.block D (Array.getElem?_eq_some_iff.1 hK).1).trans hK
               have HBF : Hid (Below w.heap.size w w5) := by
                 have h1 := HWB.out.trans (HB.out.mono HWB.out.size)
                 exact h1.trans (HB5.out.mono h1.size)
               clear b5 hc0
               by_cases hs : blockB (grpB s) nx = s
               · rw [hs] at HOK ⊢
                 have HY : Hid (blkOk s = true) := by show _ = _; rw [HOK.out]; simp
                 clear hs
                 gi_wp2
                 refine ⟨by simp, .inl ⟨_, _, rfl, run_takeDeferred HK5, ?_⟩⟩
                 refine ⟨.tuple #[.slice A6 20 c6, .int .i64 nx, .int .i64 0], (by simp [results, Tryz.results76, go_sem]), ?_⟩
                 unfold RetRb
                 rw [if_pos HY.out, HNN.out, HGL.out]
                 refine ⟨_, rfl, ?_, ?_⟩
                 · exact own_base ((own_below HROW.out HB5.out (Nat.le_refl _)).kept (grownBy_putObj' w5 D _) (Or.inr fun e => by obtain ⟨cs, hcs⟩ := row_tag (own_below HROW.out HB5.out (Nat.le_refl _)) e; rw [HK5] at hcs; cases hcs)) (by omega)
                 · exact HBF.out.trans (belowK_b (w := w) (Nat.le_refl _) w5 D _ _ (by omega) HK5 rfl rfl)
               · have HNO : Hid (blkOk s = false) := by show _ = _; rw [HOK.out]; exact decide_eq_false hs
                 have hs2 : ((blockB (grpB s) nx).toList == s.toList) = false := (by rw [Kr.lists_eq, decide_eq_false hs])
                 clear hs
                 generalize blockB (grpB s) nx = sb at *
                 gi_wp2
                 refine ⟨by simp, .inl ⟨_, _, rfl, run_takeDeferred HK5, ?_⟩⟩
                 refine ⟨.tuple #[.slice none 0 0, .int .i64 0, .int .i64 15], (by simp [results, Tryz.results76, go_sem]), ?_⟩
                 exact ret_rb_no HNO.out rfl (HBF.out.trans (belowK_b (w := w) (Nat.le_refl _) w5 D _ _ (by omega) HK5 rfl rfl))
             case stopTB =>
               rintro D c pre W _ _ h _
               exact h.elim)
  · have HNO : Hid (blkOk s = false) := by show _ = _; unfold blkOk; rw [Bool.eq_false_iff.2 hh]; rfl
    have hh1 : cntB s < 1 ∨ 20 < cntB s ∨ (1 ≤ cntB s ∧ cntB s < 20 ∧ nxB s ≠ 0) := by
      rcases Int.lt_or_le (cntB s) 1 with a | a
      · exact .inl a
      · rcases Int.lt_or_le 20 (cntB s) with b | b
        · exact .inr (.inl b)
        · have h1 : ¬ (20 ≤ cntB s ∨ nxB s = 0) := fun h => hh (headOk_t.2 ⟨a, b, h⟩)
          exact .inr (.inr ⟨a, by omega, fun e => h1 (.inr e)⟩)
    clear hh
    rcases hh1 with h1 | h1 | ⟨h1, h2, h3⟩
    · have HLT := Lib.hid h1
      generalize cntB s = cn at *
      generalize nxB s = nx at *
      have t1 : cn < 1 := h1
      clear h1
      refine (callsIn_wide (n := 5)).1 ?_
      refine callsIn_of_wp_marks Tryz.func76 rfl trivial ?_ rfl
      simp only [Tryz.ntmps76, List.size_toArray, List.length_cons, List.length_nil, Nat.reduceAdd, Nat.reduceSub, Array.replicate_succ, Array.replicate_zero, List.push_toArray, List.append_toArray, List.nil_append, List.cons_append]
      gi_wp2_with (first
        | (refine ⟨trivial, ?_⟩; gi_at_call 62; refine (callsIn_wide.2 HRD.out).mono ?_; rintro e w1 ⟨rfl, b1⟩; have HB1 := Lib.hid b1; clear b1)
        | (refine ⟨trivial, ?_⟩; gi_at_call 100; refine (callsIn_wide.2 (HWD.out _)).mono ?_; rintro e w2 ⟨A2, c2, rfl, i2, b2⟩; have HB2 := Lib.hid (HB1.out.trans (b2.mono HB1.out.size)); have HMR2 := Lib.hid (HMR.out A2 c2 w2 i2); clear b2 i2)
        | (refine ⟨trivial, ?_⟩; gi_at_call 97; refine (callsIn_wide.2 HMR2.out).mono ?_; rintro e w3 ⟨A3, n3, c3, rfl, hn3, i3, b3⟩
           obtain rfl : n3 = 67 := by have := i3.len; rw [HRL.out] at this; exact this.symm
           have HB3 := Lib.hid (HB2.out.trans (b3.mono HB2.out.size))
           have HI3 := Lib.hid i3
           obtain ⟨bb, o, rfl, hbb, g0⟩ := i3.at_ (k := 0) (by omega)
           obtain ⟨bb', o', e', -, g66⟩ := i3.at_ (k := 66) (by omega)
           obtain ⟨rfl, rfl⟩ : bb = bb' ∧ o = o' := by injection e' with e'; injection e' with e1 e2; exact ⟨e1, e2⟩
           rw [HC0.out] at g0
           rw [HN0.out] at g66
           rw [Nat.add_zero] at g0
           have y0 : w3.drew.cell? ⟨bb, o, none⟩ = some (.int .i64 cn) := g0
           have y66 : w3.drew.cell? ⟨bb, o + 66, none⟩ = some (.int .i64 nx) := g66
           clear b3 i3 e'))
      refine (fun (hmeet : PLift (?goalMeet0 : Prop)) => ?bodyMeet0) (PLift.up ?restMeet0)
      case bodyMeet0 =>
        gi_region
        all_goals exact hmeet.down
      case restMeet0 =>
        have HB3D := Lib.hid (Below.dr HB3.out)
        gi_wp2_with fail
        all_goals first
          | (rename_i q1 q2; exact absurd (Option.some.inj q1) (by intro q; cases q))
          | (refine ⟨trivial, ?_⟩
             gi_wp2
             refine ⟨.tuple #[.slice none 0 0, .int .i64 0, .int .i64 15], (by simp [results, Tryz.results76, go_sem]), ?_⟩
             exact ret_rb_no HNO.out rfl HB3D.out)

    · generalize cntB s = cn at *
      generalize nxB s = nx at *
      have t1 : ¬ cn < 1 := by omega
      have t2 : cn > 20 := h1
      clear h1
      refine (callsIn_wide (n := 5)).1 ?_
      refine callsIn_of_wp_marks Tryz.func76 rfl trivial ?_ rfl
      simp only [Tryz.ntmps76, List.size_toArray, List.length_cons, List.length_nil, Nat.reduceAdd, Nat.reduceSub, Array.replicate_succ, Array.replicate_zero, List.push_toArray, List.append_toArray, List.nil_append, List.cons_append]
      gi_wp2_with (first
        | (refine ⟨trivial, ?_⟩; gi_at_call 62; refine (callsIn_wide.2 HRD.out).mono ?_; rintro e w1 ⟨rfl, b1⟩; have HB1 := Lib.hid b1; clear b1)
        | (refine ⟨trivial, ?_⟩; gi_at_call 100; refine (callsIn_wide.2 (HWD.out _)).mono ?_; rintro e w2 ⟨A2, c2, rfl, i2, b2⟩; have HB2 := Lib.hid (HB1.out.trans (b2.mono HB1.out.size)); have HMR2 := Lib.hid (HMR.out A2 c2 w2 i2); clear b2 i2)
        | (refine ⟨trivial, ?_⟩; gi_at_call 97; refine (callsIn_wide.2 HMR2.out).mono ?_; rintro e w3 ⟨A3, n3, c3, rfl, hn3, i3, b3⟩
           obtain rfl : n3 = 67 := by have := i3.len; rw [HRL.out] at this; exact this.symm
           have HB3 := Lib.hid (HB2.out.trans (b3.mono HB2.out.size))
           have HI3 := Lib.hid i3
           obtain ⟨bb, o, rfl, hbb, g0⟩ := i3.at_ (k := 0) (by omega)
           obtain ⟨bb', o', e', -, g66⟩ := i3.at_ (k := 66) (by omega)
           obtain ⟨rfl, rfl⟩ : bb = bb' ∧ o = o' := by injection e' with e'; injection e' with e1 e2; exact ⟨e1, e2⟩
           rw [HC0.out] at g0
           rw [HN0.out] at g66
           rw [Nat.add_zero] at g0
           have y0 : w3.drew.cell? ⟨bb, o, none⟩ = some (.int .i64 cn) := g0
           have y66 : w3.drew.cell? ⟨bb, o + 66, none⟩ = some (.int .i64 nx) := g66
           clear b3 i3 e'))
      refine (fun (hmeet : PLift (?goalMeet1 : Prop)) => ?bodyMeet1) (PLift.up ?restMeet1)
      case bodyMeet1 =>
        gi_region
        all_goals exact hmeet.down
      case restMeet1 =>
        have HB3D := Lib.hid (Below.dr HB3.out)
        gi_wp2_with fail
        all_goals first
          | (rename_i q1 q2; exact absurd (Option.some.inj q1) (by intro q; cases q))
          | (refine ⟨trivial, ?_⟩
             gi_wp2
             refine ⟨.tuple #[.slice none 0 0, .int .i64 0, .int .i64 15], (by simp [results, Tryz.results76, go_sem]), ?_⟩
             exact ret_rb_no HNO.out rfl HB3D.out)

    · generalize cntB s = cn at *
      generalize nxB s = nx at *
      have t1 : ¬ cn < 1 := by omega
      have t2 : ¬ cn > 20 := by omega
      have t3 : cn < 20 := h2
      have t4 : (nx != 0) = true := bne_iff_ne.2 h3
      clear h1 h2 h3
      refine (callsIn_wide (n := 5)).1 ?_
      refine callsIn_of_wp_marks Tryz.func76 rfl trivial ?_ rfl
      simp only [Tryz.ntmps76, List.size_toArray, List.length_cons, List.length_nil, Nat.reduceAdd, Nat.reduceSub, Array.replicate_succ, Array.replicate_zero, List.push_toArray, List.append_toArray, List.nil_append, List.cons_append]
      gi_wp2_with (first
        | (refine ⟨trivial, ?_⟩; gi_at_call 62; refine (callsIn_wide.2 HRD.out).mono ?_; rintro e w1 ⟨rfl, b1⟩; have HB1 := Lib.hid b1; clear b1)
        | (refine ⟨trivial, ?_⟩; gi_at_call 100; refine (callsIn_wide.2 (HWD.out _)).mono ?_; rintro e w2 ⟨A2, c2, rfl, i2, b2⟩; have HB2 := Lib.hid (HB1.out.trans (b2.mono HB1.out.size)); have HMR2 := Lib.hid (HMR.out A2 c2 w2 i2); clear b2 i2)
        | (refine ⟨trivial, ?_⟩; gi_at_call 97; refine (callsIn_wide.2 HMR2.out).mono ?_; rintro e w3 ⟨A3, n3, c3, rfl, hn3, i3, b3⟩
           obtain rfl : n3 = 67 := by have := i3.len; rw [HRL.out] at this; exact this.symm
           have HB3 := Lib.hid (HB2.out.trans (b3.mono HB2.out.size))
           have HI3 := Lib.hid i3
           obtain ⟨bb, o, rfl, hbb, g0⟩ := i3.at_ (k := 0) (by omega)
           obtain ⟨bb', o', e', -, g66⟩ := i3.at_ (k := 66) (by omega)
           obtain ⟨rfl, rfl⟩ : bb = bb' ∧ o = o' := by injection e' with e'; injection e' with e1 e2; exact ⟨e1, e2⟩
           rw [HC0.out] at g0
           rw [HN0.out] at g66
           rw [Nat.add_zero] at g0
           have y0 : w3.drew.cell? ⟨bb, o, none⟩ = some (.int .i64 cn) := g0
           have y66 : w3.drew.cell? ⟨bb, o + 66, none⟩ = some (.int .i64 nx) := g66
           clear b3 i3 e'))
      refine (fun (hmeet : PLift (?goalMeet2 : Prop)) => ?bodyMeet2) (PLift.up ?restMeet2)
      case bodyMeet2 =>
        gi_region
        all_goals exact hmeet.down
      case restMeet2 =>
        have HB3D := Lib.hid (Below.dr HB3.out)
        gi_wp2_with fail
        all_goals first
          | (rename_i q1 q2; exact absurd (Option.some.inj q1) (by intro q; cases q))
          | (refine ⟨trivial, ?_⟩
             refine (callsIn_wide.2 (HS.out _ _)).mono ?_
             rintro e w4 ⟨rfl, rfl⟩
             gi_wp2
             refine ⟨.tuple #[.slice none 0 0, .int .i64 0, .int .i64 15], (by simp [results, Tryz.results76, go_sem]), ?_⟩
             exact ret_rb_no HNO.out rfl HB3D.out)

end
end Go.Proofs.YtgdlfiejjnjcpaaGreat.Dl
