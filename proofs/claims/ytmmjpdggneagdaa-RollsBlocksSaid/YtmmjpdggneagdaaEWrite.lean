/-
  WALK: Write, with its range over slices.Chunk. Conditions: at most 40000 entries.
-/
import Derived.Test.YtmmjpdggneagdaaEStrs
import Derived.Test.YtmmjpdggneagdaaERefW
import Derived.Test.YtmmjpdggneagdaaERight
import Derived.Test.YtmmjpdggneagdaaELib
import Derived.Test.YtmmjpdggneagdaaEChunk
namespace Go.Proofs.Ytmmjpdggneagdaa
open Go.RowKit Go.Shelf
attribute [local go_sem] Oper.semAt_some

theorem grown_below {w w' : World} (h : Below w.heap.size w w') : w.grownBy w' none := ⟨h.os, h.tape, h.output, h.size, fun k hk _ => h.block k hk⟩
theorem bd_at {w w' : World} {B b : Nat} {p : Value} {l : List Value} (h : Lib.BuilderAt 59 5 B b p l w) (hb : Below w.heap.size w w') : Lib.BuilderAt 59 5 B b p l w' := by
  have hlt := h.lt
  obtain ⟨h1, v, h2, h3, h4⟩ := h
  refine ⟨h1, v, (hb.block b hlt).trans h2, h3.kept (grown_below hb) ?_, h4⟩
  cases hv : v.ownBlock with
  | none => exact Or.inl rfl
  | some x => exact Or.inr (by simp)
theorem bd_keep {w w' : World} {B b : Nat} {l : List Value} (h : Lib.IsBuilder 59 5 B b l w) (hb : Below w.heap.size w w') : Lib.IsBuilder 59 5 B b l w' := h.imp (fun h => bd_at h hb) (fun h => bd_at h hb)
theorem bd_new (w : World) : Lib.IsBuilder 59 5 w.heap.size w.heap.size (Lib.byteCells []) (w.alloc (.cells #[.pointer none, .slice none 0 0] 59)) := by
  refine Or.inl ⟨Nat.le_refl _, .slice none 0 0, ?_, World.ownsRow_nil _ _ _ _, by simp [Value.ownBlock]⟩
  show (w.heap.push _)[w.heap.size]? = _
  simp
theorem cells_next (a b : List UInt8) : Lib.byteCells a ++ Lib.strCells (bs b) = Lib.byteCells (a ++ b) := by
  unfold Lib.byteCells Lib.strCells; rw [bs_data, List.map_append]

/-- 'append(l, s)' of texts, at a step of a region that draws its order, inside a fence. -/
theorem step_pushS {F : Fence} {n : Nat} {ops : Array Oper} {o : Oper} {a : Act} {K : Act → World → Prop} {Q : Exit → Act → World → Prop} {E : Prop} (hgd : o.guard = none) (s x : Operand)
    (ho : o.op = .call { callee := .builtin .append, args := #[s, x], argTypes := #[36, 36] })
    (base : Nat) (W : World) (v : Value) (l : List ByteArray) (z : ByteArray) (hs : a.eval s = v) (hx : a.eval x = .slice (some ⟨W.heap.size, 0, none⟩) 1 1)
    (hown : W.ownsRow base 9 1 v l.length (strs l)) (hl : l.length ≤ 100000) (hbase : base ≤ W.heap.size)
    (h : ∀ v' w', w'.ownsRow base 9 1 v' (l ++ [z]).length (strs (l ++ [z])) → (W.alloc (.cells #[.string z] 9)).grownBy w' v.ownBlock → K (a.put o.dst v') w') :
    if Region.wanted o (yielded ops a.tmps) = true then Oper.wpIn F n Try.prog o a (W.alloc (.cells #[.string z] 9)) K Q else E := by
  have hw : Region.wanted o (yielded ops a.tmps) = true := by simp [Region.wanted, hgd]
  rw [if_pos hw]
  obtain ⟨i0, hi, hz0, hz1, hz2⟩ := info_parts info9
  obtain ⟨v', w', hrun, r1, r2, r3⟩ := run_append_own (P := Try.prog) (W.alloc (.cells #[.string z] 9)) base 36 o.type 9 i0 _ 1 16 Try.underlying36 hi hz0 hz1 hz2 rfl (by decide) v l.length (strs l) (hown.alloc _) ⟨W.heap.size, 0, none⟩ 1 1 [.string z] rfl
    (World.news_of_block (heap_alloc_new W _)) (one_str z) (by unfold maxLen; omega) (by omega) (by simp; omega)
  unfold Oper.wpIn
  refine ⟨?_, ?_⟩
  · simp [Oper.about, ho, resolve, Target.leads, Sem.run_pure]
  · rw [Oper.semAt_plain F _ _ (by rw [ho]; intro c hc'; cases hc')]
    simp [execOp, ho, resolve, invoke, builtin, hs, hx, hrun, Result.andThen]
    refine h v' w' ?_ r2
    rw [strs_snoc, List.length_append]; exact r1

theorem row_tag {w : World} {base n sz : Nat} {e : TypeId} {v : Value} {xs : List Value} (h : w.ownsRow base e sz v n xs) {b : Nat} (hb : v.ownBlock = some b) : ∃ cs, w.heap[b]? = some (.cells cs e (0, 0)) := by
  rcases h.2 with ⟨rfl, -⟩ | ⟨g, cap, cur, rfl, _, hg, _⟩
  · simp [Value.ownBlock] at hb
  · have : g = b := by simpa [Value.ownBlock] using hb
    subst this
    exact ⟨cur, hg⟩
/-- the end of a round: the block is appended, the list stored in its box. -/
theorem write_end {w W W5 W6 : World} {N p B1 B2 : Nat} {v v' : Value} {ls : List ByteArray} {z : ByteArray} (hbox : Boxed W p 36 v) (hrow : W.ownsRow N 9 1 v ls.length (strs ls)) (hN : N ≤ W.heap.size) (hb : Below w.heap.size w W)
    (hp : w.heap.size ≤ p) (hpN : p < N) (h1 : B1 < N) (h2 : B2 < N) (hp1 : B1 ≠ p) (hp2 : B2 ≠ p)
    (h5 : Below W.heap.size W W5) (hg : (W5.alloc (.cells #[.string z] 9)).grownBy W6 v.ownBlock) (hr : W6.ownsRow N 9 1 v' (ls ++ [z]).length (strs (ls ++ [z]))) :
    KeepsOthers W (W6.setCell ⟨p, 0, none⟩ v') ∧ KpC B1 B2 W (W6.setCell ⟨p, 0, none⟩ v') ∧ Boxed (W6.setCell ⟨p, 0, none⟩ v') p 36 v' ∧ (W6.setCell ⟨p, 0, none⟩ v').ownsRow N 9 1 v' (ls ++ [z]).length (strs (ls ++ [z])) ∧
      N ≤ (W6.setCell ⟨p, 0, none⟩ v').heap.size ∧ Below w.heap.size w (W6.setCell ⟨p, 0, none⟩ v') := by
  have hba : Below W.heap.size W (W5.alloc (.cells #[.string z] 9)) := h5.alloc h5.size _
  have hga := grown_below hba
  have hrowa := own_below hrow hba (Nat.le_refl _)
  have hlow : ∀ k, k < N → W6.heap[k]? = W.heap[k]? := fun k hk => by
    rw [hg.block k (by have := hba.size; omega) (fun e => by have := (hrowa.lt k e.symm).1; omega)]
    exact hba.block k (by omega)
  have hbox6 : Boxed W6 p 36 v := (hlow p hpN).trans hbox
  refine ⟨((KeepsOthers.of_grownBy hga (fun j o e => by cases e)).trans (KeepsOthers.of_grownBy hg fun j o e ho => ?_)).trans (KeepsOthers.setCell _ _ _), ⟨?_, ?_⟩, hbox6.set v', ?_, ?_, ?_⟩
  · obtain ⟨cs, hcs⟩ := row_tag hrowa e
    rw [hcs] at ho; cases ho; rfl
  · rw [heap_setCell_other _ _ _ _ (by exact hp1)]; exact hlow B1 h1
  · rw [heap_setCell_other _ _ _ _ (by exact hp2)]; exact hlow B2 h2
  · exact hr.kept (grownBy_setCell' _ _ _) (Or.inr fun e => by have := (hr.lt p e).1; omega)
  · have := (grownBy_setCell' W6 p v').size; have := hg.size; have := hba.size; omega
  · exact ((hb.trans (hba.mono hb.size)).grown hg (by have := hba.size; have := hb.size; omega) (fun k e => by have := (hrowa.lt k e).1; have := hb.size; omega)).setCell hp _

/-- the state behind the chunks pre: the list of blocks in its box, its row, what lies below. -/
def OutAt (w : World) (N p : Nat) (l : List En) {q : Nat} (pre : List (Fin q)) (W : World) : Prop :=
  (∃ v, Boxed W p 36 v ∧ W.ownsRow N 9 1 v (pre.map fun x : Fin q => blk l x.1).length (strs (pre.map fun x : Fin q => blk l x.1)) ∧ True) ∧ N ≤ W.heap.size ∧ Below w.heap.size w W
theorem OutAt.own (w : World) (N p : Nat) (l : List En) {q : Nat} {C : Nat} (hC : w.heap.size ≤ C) : OwnFrom C (OutAt w N p l (q := q)) :=
  ((holdsRow_own N p 36 9 1 (fun pre : List (Fin q) => (pre.map fun x : Fin q => blk l x.1).length) (fun pre => strs (pre.map fun x : Fin q => blk l x.1)) (fun _ _ => True)).from C).and
    (fun _ _ _ _ hs hg hr => ⟨Nat.le_trans hs.1 hg.size, hs.2.grown hg hs.2.size (fun k e => Nat.le_trans hC (hr k e).1)⟩)

theorem firsts_blocks (l : List En) (q : Nat) : (firstsC q q).map (fun x : Fin q => blk l x.1) = blocksTo l q := by
  unfold firstsC blocksTo
  rw [List.take_of_length_le (by simp)]
  apply List.ext_getElem
  · simp
  · intro i h1 h2; simp

set_option maxRecDepth 100000 in
set_option maxHeartbeats 8000000 in
theorem writeB_some (b o n c B : Nat) (l : List En) (w : World) (hA : EnsAt w B (some ⟨b, o, none⟩) n l) (hB : B ≤ w.heap.size) (hn : n ≤ 40000) (hnc : n ≤ c) (h0 : rightR l = true) :
    Calls Try.prog 23 #[.slice (some ⟨b, o, none⟩) n c] w (RetW w (blocksR l, 0)) := by
  obtain ⟨q, hq⟩ : ∃ q, 8 * q = n := ⟨n / 8, by have := right_len h0; rw [hA.len] at this; omega⟩
  have HL := Lib.hid hA.len
  have HA := Lib.hid hA
  have H0 := Lib.hid h0
  have HRT := Lib.hid (rightE_any (some ⟨b, o, none⟩) n c B l w hA hB (by omega))
  rw [h0] at HRT
  clear hA h0
  subst hq
  refine (callsIn_wide (n := 5)).1 ?_
  refine callsIn_of_wp_marks Try.func23 rfl trivial ?_ rfl
  simp only [Try.ntmps23, List.size_toArray, List.length_cons, List.length_nil, Nat.reduceAdd, Nat.reduceSub, Array.replicate_succ, Array.replicate_zero, List.push_toArray, List.append_toArray, List.nil_append, List.cons_append]
  gi_wp2_with (refine ⟨trivial, ?_⟩; gi_at_call 12; refine (callsIn_wide.2 HRT.out).mono ?_; rintro e w1 ⟨rfl, b1⟩)
  have HB1 := Lib.hid b1
  clear b1
  gi_wp2_with (refine ⟨trivial, ?_⟩; gi_at_call 37; refine (callsIn_wide.2 (chunk_any _ _ _ _)).mono ?_; rintro e w' ⟨rfl, rfl⟩)
  obtain ⟨W0, hW0⟩ : ∃ W0, (((w1.alloc (.cells #[.slice none 0 0] 36)).alloc (.cells #[.slice (some ⟨b, o, none⟩) (8 * q) c] 22)).alloc (.cells #[.int .i64 8] 3)) = W0 := ⟨_, rfl⟩
  have e1 : (w1.alloc (.cells #[.slice none 0 0] 36)).heap.size = w1.heap.size + 1 := by simp
  have e2 : ((w1.alloc (.cells #[.slice none 0 0] 36)).alloc (.cells #[.slice (some ⟨b, o, none⟩) (8 * q) c] 22)).heap.size = w1.heap.size + 1 + 1 := by simp
  have hsz : W0.heap.size = w1.heap.size + 1 + 1 + 1 := by rw [← hW0]; simp
  have hbP : Boxed W0 w1.heap.size 36 (.slice none 0 0) := by rw [← hW0]; exact ((Boxed.new w1 36 _).alloc _).alloc _
  have hb1 : Boxed W0 (w1.heap.size + 1) 22 (.slice (some ⟨b, o, none⟩) (8 * q) c) := by
    rw [← hW0]
    have := (Boxed.new (w1.alloc (.cells #[.slice none 0 0] 36)) 22 (.slice (some ⟨b, o, none⟩) (8 * q) c)).alloc (.cells #[.int .i64 8] 3)
    rwa [e1] at this
  have hb2 : Boxed W0 (w1.heap.size + 1 + 1) 3 (.int .i64 8) := by
    rw [← hW0]
    have := Boxed.new ((w1.alloc (.cells #[.slice none 0 0] 36)).alloc (.cells #[.slice (some ⟨b, o, none⟩) (8 * q) c] 22)) 3 (.int .i64 8)
    rwa [e2] at this
  have hB0 : Below w.heap.size w W0 := by
    rw [← hW0]
    have h1 := HB1.out.size
    exact ((HB1.out.alloc h1 _).alloc (by rw [e1]; omega) _).alloc (by rw [e2]; omega) _
  rw [hW0]
  clear hW0 e1 e2
  have hw1 := HB1.out.size
  have HW1 := Lib.hid hw1
  refine wpIn_rangeFunc_ownF rfl (by omega) (gf := 49) (lb := #[.pointer (some ⟨w1.heap.size + 1, 0, none⟩), .pointer (some ⟨w1.heap.size + 1 + 1, 0, none⟩)]) rfl trivial (enters_of Try.func49 (by kernel_rfl) rfl)
    (iterC_stops Fence.wide _ trivial rfl (by omega) (w1.heap.size + 1) (w1.heap.size + 1 + 1) b o q c hnc (by omega) W0 hb1 hb2) KpC.t (KpC.b (by omega) (by omega)) (Below.refl _ _) (fun _ => rfl)
    (OutAt w W0.heap.size w1.heap.size l (q := q)) (fun _ _ _ => False) (OutAt.own w _ _ l (by omega)) (fun _ _ _ _ _ hs _ _ => hs)
    ⟨⟨_, hbP, World.ownsRow_nil _ _ _ _, trivial⟩, Nat.le_refl _, hB0⟩
    (fun x => { tmps := #[.slice (some ⟨b, o, none⟩) (8 * q) c, undef, .slice none 0 0, .int .i64 0, .pointer (some ⟨w1.heap.size, 0, none⟩), .slice (some ⟨b, o + 8 * x.1 * 2, none⟩) 8 8, undef, undef, undef, .slice (some ⟨b, o, none⟩) (8 * q) c, .bool true, .bool false, .slice (some ⟨b, o, none⟩) (8 * q) c, .func (.func 49) #[] #[.pointer (some ⟨w1.heap.size + 1, 0, none⟩), .pointer (some ⟨w1.heap.size + 1 + 1, 0, none⟩)], .slice (some ⟨b, o + 8 * x.1 * 2, none⟩) 8 8, undef, undef, undef, undef, undef, undef, undef, undef, undef, undef, undef, undef, undef, undef, undef], defers := [] })
    ?assign ?body ?done ?stop
  case assign =>
    intro l x W K hK
    simp only [chunkV]
    gi_wp2
    exact hK
  case body =>
    rintro lr pre x W ⟨⟨v, hbox, hrow, -⟩, hsz', hb'⟩ hpq
    have HBOX := Lib.hid hbox
    have HROW := Lib.hid hrow
    have HB := Lib.hid hb'
    have HBD : Hid (Lib.IsBuilder 59 5 W.heap.size W.heap.size (Lib.byteCells (bytesE ((cutE l x.1).take 0))) (W.alloc (.cells #[.pointer none, .slice none 0 0] 59))) := by
      have := bd_new W
      rwa [show bytesE ((cutE l x.1).take 0) = [] from rfl]
    have HBW : Hid (Below W.heap.size W (W.alloc (.cells #[.pointer none, .slice none 0 0] 59))) := (Below.refl _ _).alloc (Nat.le_refl _) _
    have hx8 : 8 * x.1 + 8 ≤ 8 * q := by have := x.2; omega
    have HLX := Lib.hid hx8
    have h8l : 8 * x.1 + 8 ≤ l.length := by rw [HL.out]; exact hx8
    have HNX := Lib.hid (fun k hk => bytes_next (l := l) (q := x.1) (k := k) hk h8l)
    have HSH := Lib.hid (fun k hk => bytes_short H0.out x.1 k hk)
    have HALL := Lib.hid (bytes_all h8l)
    have HCN : Hid (∀ k, k < 8 → Lib.byteCells (bytesE ((cutE l x.1).take k)) ++ Lib.strCells (bs (slotL (l.getD (8 * x.1 + k) En.z))) = Lib.byteCells (bytesE ((cutE l x.1).take (k + 1)))) := fun k hk => by
      rw [cells_next]; exact congrArg Lib.byteCells (bs_inj (by rw [← bs_append]; exact bytes_next hk h8l))
    have HPRE : Hid (((pre ++ [x]).map fun y : Fin q => blk l y.1) = (pre.map fun y : Fin q => blk l y.1) ++ [blk l x.1]) := by show _ = _; simp
    have hpl : (pre.map fun y : Fin q => blk l y.1).length ≤ 100000 := by rw [List.length_map]; omega
    clear hbox hrow hb' hx8 h8l
    gi_wp2
    generalize W.alloc (.cells #[.pointer none, .slice none 0 0] 59) = W1 at *
    gi_loopw [8, 17] (fun _ i wq => ∃ k : Nat, k ≤ 8 ∧ i = .int .i64 (k : Int) ∧ Lib.IsBuilder 59 5 W.heap.size W.heap.size (Lib.byteCells (bytesE ((cutE l x.1).take k))) wq ∧ Below W.heap.size W wq) (fun _ i _ => 8 - (intOf i).toNat)
    case atStart => exact ⟨0, by omega, rfl, HBD.out, HBW.out⟩
    case round =>
      clear HBD HBW
      obtain ⟨k, hk, rfl, hbd, hbq⟩ := hrel
      have HBD := Lib.hid hbd
      have HBQ := Lib.hid hbq
      clear hbd hbq
      by_cases hk8 : k < 8
      · have hbw := HB.out.trans (HBQ.out.mono HB.out.size)
        have hxk : 8 * x.1 + k < 8 * q := by have := HLX.out; omega
        obtain ⟨b', o', e', hbB, g1, g2⟩ := HA.out.at_ (k := 8 * x.1 + k) hxk
        obtain ⟨rfl, rfl⟩ : b' = b ∧ o' = o := by injection e' with e'; injection e' with e1 e2; exact ⟨e1.symm, e2.symm⟩
        have c1 := bcell hbw g1 (by show b' < _; omega)
        have c2 := bcell hbw g2 (by show b' < _; omega)
        rw [show o' + (8 * x.1 + k) * 2 = o' + 8 * x.1 * 2 + k * 2 by omega] at c1 c2
        have hok : (l.getD (8 * x.1 + k) En.z).okS := right_okS H0.out (by rw [getD_lt (by rw [HL.out]; exact hxk)]; exact List.getElem_mem _)
        have HSL := Lib.hid (fun W => slot_any (l.getD (8 * x.1 + k) En.z) W hok)
        have hs16 : (bs (slotL (l.getD (8 * x.1 + k) En.z))).size = 16 := slot_len hok.len
        have HC := Lib.hid (HCN.out k hk8)
        have hyl : (Lib.byteCells (bytesE ((cutE l x.1).take k))).length ≤ 128 := by
          have := HSH.out k hk
          rw [bs_size] at this
          unfold Lib.byteCells
          rw [List.length_map]; exact this
        have x1 : (0 : Int) ≤ (k : Int) := by omega
        have x2 : (k : Int) < 8 := by omega
        clear g1 g2 e' hok hbw hxk hpl
        generalize bs (slotL (l.getD (8 * x.1 + k) En.z)) = T at *
        generalize (l.getD (8 * x.1 + k) En.z).nm = s at *
        generalize (l.getD (8 * x.1 + k) En.z).nd = z at *
        generalize Lib.byteCells (bytesE ((cutE l x.1).take k)) = Y at *
        generalize o' + 8 * x.1 * 2 = ox at *
        have HBD2 := Lib.hid (bd_keep HBD.out ((Below.refl _ _).alloc (Nat.le_refl _) (.cells #[.string s, .int .i64 z] 43)))
        have HBQ2 : Hid (Below W.heap.size W (wr.alloc (.cells #[.string s, .int .i64 z] 43))) := HBQ.out.alloc HBQ.out.size _
        gi_wp2_with (refine ⟨trivial, ?_⟩; gi_at_call 39; refine (CallsIn.inRound lr (callsIn_wide.2 (HSL.out _))).mono ?_; rintro e w2 ⟨rfl, b2⟩; have hbd2 := bd_keep HBD2.out b2; have hB2 := HBQ2.out.trans (b2.mono HBQ2.out.size); clear b2)
        refine ⟨trivial, (CallsIn.inRound lr (callsIn_wide.2 (Builder_WriteString W.heap.size W.heap.size Y T w2 hbd2 (by omega) hB2.size))).mono ?_⟩
        rintro e w3 ⟨rfl, hbd3, b3⟩
        rw [HC.out] at hbd3
        have HBD3 := Lib.hid hbd3
        have HBQ3 := Lib.hid (hB2.trans b3)
        clear hbd3 b3 hbd2 hB2 c1 c2
        gi_wp2
        go_roundw
        case rel => exact ⟨k + 1, by omega, by go_num, Or.inr HBD3.out, HBQ3.out⟩
        case measure => simp [intOf]; omega
      · obtain rfl : k = 8 := by omega
        have KS := Lib.hid (fun w2 h1 h2 => Builder_String_any W.heap.size W.heap.size (bytesE ((cutE l x.1).take 8)) w2 h1 h2)
        have e8 : (⟨(bytesE ((cutE l x.1).take 8)).toArray⟩ : ByteArray) = blk l x.1 := HALL.out
        rw [e8] at KS
        rw [show ((8 : Nat) : Int) = 8 from rfl]
        have cP := HBQ.out
        have hm : Try.prog.follows .mixedOrders = true := by kernel_rfl
        have HEND := Lib.hid (fun (W5 W6 : World) (v' : Value) (h5 : Below W.heap.size W W5) (hg : (W5.alloc (.cells #[.string (blk l x.1)] 9)).grownBy W6 v.ownBlock)
          (hr : W6.ownsRow W0.heap.size 9 1 v' ((pre.map fun y : Fin q => blk l y.1) ++ [blk l x.1]).length (strs ((pre.map fun y : Fin q => blk l y.1) ++ [blk l x.1]))) =>
          write_end (w := w) (p := w1.heap.size) (B1 := w1.heap.size + 1) (B2 := w1.heap.size + 1 + 1) HBOX.out HROW.out hsz' HB.out hw1 (by omega) (by omega) (by omega) (by omega) (by omega) h5 hg hr)
        gi_wp2
        have HBXD : Hid (Boxed wr.drew w1.heap.size 36 v) := (HBQ.out.block _ HBOX.out.lt).trans HBOX.out
        have HRWD : Hid (wr.drew.ownsRow W0.heap.size 9 1 v (pre.map fun y : Fin q => blk l y.1).length (strs (pre.map fun y : Fin q => blk l y.1))) := own_below HROW.out (w' := wr.drew) ⟨HBQ.out.os, HBQ.out.tape, HBQ.out.output, HBQ.out.size, HBQ.out.block⟩ (Nat.le_refl _)
        have HBQD : Hid (Below W.heap.size W wr.drew) := ⟨HBQ.out.os, HBQ.out.tape, HBQ.out.output, HBQ.out.size, HBQ.out.block⟩
        have HBDD : Hid (Lib.IsBuilder 59 5 W.heap.size W.heap.size (Lib.byteCells (bytesE ((cutE l x.1).take 8))) wr.drew) := bd_keep HBD.out (w' := wr.drew) ⟨rfl, rfl, rfl, Nat.le_refl _, fun _ _ => rfl⟩
        rw [← HPRE.out] at HEND
        refine wpIn_region_any hm ?_
        change wpAnyIn _ _ _ _ _ _ _ _ _ (World.drew _)
        clear HBD HBQ HALL HNX HSH HCN
        generalize hz : blk l x.1 = z at *
        have HZ := Lib.hid hz
        clear hz
        generalize hls : (pre.map fun y : Fin q => blk l y.1) = ls at *
        have HLS := Lib.hid hls
        clear hls
        generalize wr.drew = WD at *
        have kP := HBXD.out.cell
        have fP := HBXD.out.frozen
        refine wpAnyIn_ready (rs := [0, 1]) (by kernel_rfl) (by simp) ?_
        refine AllReadyIn.cons rfl (fun K hK => ?_) (AllReadyIn.cons rfl (fun K hK => ?_) AllReadyIn.nil)
        · go_simp
          refine hK _ _ ?_
          clear hK K
          refine wpAnyIn_ready (rs := [1]) (by kernel_rfl) (by simp) ?_
          refine AllReadyIn.cons rfl (fun K hK => ?_) AllReadyIn.nil
          go_simp
          gi_wp2_with (refine ⟨trivial, ?_⟩; gi_at_call 40; refine (CallsIn.inRound lr (callsIn_wide.2 (KS.out _ HBDD.out HBQD.out.size))).mono ?_; rintro e w3 ⟨rfl, b3⟩)
          have h35 : Below W.heap.size W w3 := HBQD.out.trans b3
          have HR3 := Lib.hid (own_below HROW.out h35 (Nat.le_refl _))
          have HBX3 : Hid (Boxed w3 w1.heap.size 36 v) := (h35.block _ HBOX.out.lt).trans HBOX.out
          have kP3 := HBX3.out.cell
          have kP4 := (HBX3.out.alloc (.cells #[.string z] 9)).cell
          have H35 := Lib.hid h35
          clear b3 h35
          refine wpAnyIn_ready (rs := [2]) (by kernel_rfl) (by simp) ?_
          refine AllReadyIn.cons rfl (fun K hK => ?_) AllReadyIn.nil
          go_simp
          refine hK _ _ ?_
          clear hK K
          refine wpAnyIn_ready (rs := [3]) (by kernel_rfl) (by simp) ?_
          refine AllReadyIn.cons rfl (fun K hK => ?_) AllReadyIn.nil
          refine step_pushS (by rfl) (.tmp 25) (.tmp 27) (by rfl) W0.heap.size w3 v ls z (by simp [Act.eval]) (by simp [Act.eval]) HR3.out hpl (by have := H35.out.size; omega) ?_
          intro v' w6 ho6 hg6
          obtain ⟨q1, q2, q3, q4, q5, q6⟩ := HEND.out w3 w6 v' H35.out hg6 (by rw [HPRE.out]; exact ho6)
          have HQ := Lib.hid (And.intro q1 (And.intro q2 (And.intro q3 (And.intro q4 (And.intro q5 q6)))))
          clear q1 q2 q3 q4 q5 q6
          obtain ⟨A6, c6, rfl, -⟩ := own_slice ho6
          have hbx6 : Boxed w6 w1.heap.size 36 v := by
            have hb3 := HBX3.out.alloc (.cells #[.string z] 9)
            exact hb3.kept hg6 (hb3.not_row (by decide) (HR3.out.alloc _))
          have k6 := hbx6.cell
          have f6 := hbx6.frozen
          clear ho6 hg6 hbx6
          generalize (ls ++ [z]).length = m6 at *
          refine hK _ _ ?_
          clear hK K
          refine wpAnyIn_ready (rs := [4]) (by kernel_rfl) (by simp) ?_
          refine AllReadyIn.cons rfl (fun K hK => ?_) AllReadyIn.nil
          go_simp
          refine hK _ _ ?_
          clear hK K
          refine wpAnyIn_done (by kernel_rfl) ?_ _
          obtain ⟨q1, q2, q3, q4, q5, q6⟩ := HQ.out
          exact ⟨q1, q2, ⟨_, q3, q4, trivial⟩, q5, q6⟩
        · go_simp
          gi_wp2_with (refine ⟨trivial, ?_⟩; gi_at_call 40; refine (CallsIn.inRound lr (callsIn_wide.2 (KS.out _ HBDD.out HBQD.out.size))).mono ?_; rintro e w3 ⟨rfl, b3⟩)
          have h35 : Below W.heap.size W w3 := HBQD.out.trans b3
          have HR3 := Lib.hid (own_below HROW.out h35 (Nat.le_refl _))
          have HBX3 : Hid (Boxed w3 w1.heap.size 36 v) := (h35.block _ HBOX.out.lt).trans HBOX.out
          have kP3 := HBX3.out.cell
          have kP4 := (HBX3.out.alloc (.cells #[.string z] 9)).cell
          have H35 := Lib.hid h35
          clear b3 h35
          refine wpAnyIn_ready (rs := [0, 2]) (by kernel_rfl) (by simp) ?_
          refine AllReadyIn.cons rfl (fun K hK => ?_) (AllReadyIn.cons rfl (fun K hK => ?_) AllReadyIn.nil)
          · go_simp
            refine hK _ _ ?_
            clear hK K
            refine wpAnyIn_ready (rs := [2]) (by kernel_rfl) (by simp) ?_
            refine AllReadyIn.cons rfl (fun K hK => ?_) AllReadyIn.nil
            go_simp
            refine hK _ _ ?_
            clear hK K
            refine wpAnyIn_ready (rs := [3]) (by kernel_rfl) (by simp) ?_
            refine AllReadyIn.cons rfl (fun K hK => ?_) AllReadyIn.nil
            refine step_pushS (by rfl) (.tmp 25) (.tmp 27) (by rfl) W0.heap.size w3 v ls z (by simp [Act.eval]) (by simp [Act.eval]) HR3.out hpl (by have := H35.out.size; omega) ?_
            intro v' w6 ho6 hg6
            obtain ⟨q1, q2, q3, q4, q5, q6⟩ := HEND.out w3 w6 v' H35.out hg6 (by rw [HPRE.out]; exact ho6)
            have HQ := Lib.hid (And.intro q1 (And.intro q2 (And.intro q3 (And.intro q4 (And.intro q5 q6)))))
            clear q1 q2 q3 q4 q5 q6
            obtain ⟨A6, c6, rfl, -⟩ := own_slice ho6
            have hbx6 : Boxed w6 w1.heap.size 36 v := by
              have hb3 := HBX3.out.alloc (.cells #[.string z] 9)
              exact hb3.kept hg6 (hb3.not_row (by decide) (HR3.out.alloc _))
            have k6 := hbx6.cell
            have f6 := hbx6.frozen
            clear ho6 hg6 hbx6
            generalize (ls ++ [z]).length = m6 at *
            refine hK _ _ ?_
            clear hK K
            refine wpAnyIn_ready (rs := [4]) (by kernel_rfl) (by simp) ?_
            refine AllReadyIn.cons rfl (fun K hK => ?_) AllReadyIn.nil
            go_simp
            refine hK _ _ ?_
            clear hK K
            refine wpAnyIn_done (by kernel_rfl) ?_ _
            obtain ⟨q1, q2, q3, q4, q5, q6⟩ := HQ.out
            exact ⟨q1, q2, ⟨_, q3, q4, trivial⟩, q5, q6⟩
          · go_simp
            refine hK _ _ ?_
            clear hK K
            refine wpAnyIn_ready (rs := [0]) (by kernel_rfl) (by simp) ?_
            refine AllReadyIn.cons rfl (fun K hK => ?_) AllReadyIn.nil
            go_simp
            refine hK _ _ ?_
            clear hK K
            refine wpAnyIn_ready (rs := [3]) (by kernel_rfl) (by simp) ?_
            refine AllReadyIn.cons rfl (fun K hK => ?_) AllReadyIn.nil
            refine step_pushS (by rfl) (.tmp 25) (.tmp 27) (by rfl) W0.heap.size w3 v ls z (by simp [Act.eval]) (by simp [Act.eval]) HR3.out hpl (by have := H35.out.size; omega) ?_
            intro v' w6 ho6 hg6
            obtain ⟨q1, q2, q3, q4, q5, q6⟩ := HEND.out w3 w6 v' H35.out hg6 (by rw [HPRE.out]; exact ho6)
            have HQ := Lib.hid (And.intro q1 (And.intro q2 (And.intro q3 (And.intro q4 (And.intro q5 q6)))))
            clear q1 q2 q3 q4 q5 q6
            obtain ⟨A6, c6, rfl, -⟩ := own_slice ho6
            have hbx6 : Boxed w6 w1.heap.size 36 v := by
              have hb3 := HBX3.out.alloc (.cells #[.string z] 9)
              exact hb3.kept hg6 (hb3.not_row (by decide) (HR3.out.alloc _))
            have k6 := hbx6.cell
            have f6 := hbx6.frozen
            clear ho6 hg6 hbx6
            generalize (ls ++ [z]).length = m6 at *
            refine hK _ _ ?_
            clear hK K
            refine wpAnyIn_ready (rs := [4]) (by kernel_rfl) (by simp) ?_
            refine AllReadyIn.cons rfl (fun K hK => ?_) AllReadyIn.nil
            go_simp
            refine hK _ _ ?_
            clear hK K
            refine wpAnyIn_done (by kernel_rfl) ?_ _
            obtain ⟨q1, q2, q3, q4, q5, q6⟩ := HQ.out
            exact ⟨q1, q2, ⟨_, q3, q4, trivial⟩, q5, q6⟩
  case done =>
    rintro D xs W hD rfl ⟨⟨v, hbox, hrow, -⟩, hsz', hb'⟩ hK
    have hc0 := hbox.cell
    have hbl : (firstsC q q).map (fun x : Fin q => blk l x.1) = blocksR l := by
      unfold blocksR
      rw [HL.out, show 8 * q / 8 = q by omega, firsts_blocks]
    rw [hbl] at hrow
    have HROW := Lib.hid hrow
    have HB := Lib.hid hb'
    clear hrow hb' hbl hbox
    gi_wp2
    refine ⟨by simp, .inl ⟨_, _, rfl, run_takeDeferred hK, ?_⟩⟩
    refine ⟨_, results_tmp2 rfl _ _ _, v, rfl, ?_, ?_⟩
    · exact own_base (HROW.out.kept (grownBy_putObj' W D _) (Or.inr fun e => by obtain ⟨cs, hcs⟩ := row_tag HROW.out e; rw [hK] at hcs; cases hcs)) (by omega)
    · exact HB.out.trans (belowK_b (w := w) (Nat.le_refl _) W D _ _ (by omega) hK rfl rfl)
  case stop =>
    rintro D c pre W _ _ h _
    exact h.elim

theorem iterC_zero (F : Fence) (n : Nat) (h49 : F.fn 49) (hro : F.round = none) (B1 B2 : Nat) (A : Option Addr) (c : Nat) (w : World) (hB1 : Boxed w B1 22 (.slice A 0 c)) :
    SeqStopsK F n Try.prog 49 #[.pointer (some ⟨B1, 0, none⟩), .pointer (some ⟨B2, 0, none⟩)] (chunkV 0 0 (q := 0)) (KpC B1 B2) (fun xs => xs = []) (fun _ => True) 0 w :=
  fun l J _ W hW _ _ _ h0 => (iterC_none F n h49 hro l B1 B2 A c W ((hW.block B1 hB1.lt).trans hB1) J h0).mono fun _ _ h => ⟨h.1, .inl ⟨[], rfl, h.2⟩⟩
set_option maxRecDepth 100000 in
set_option maxHeartbeats 8000000 in
theorem writeB_nil (A : Option Addr) (c B : Nat) (w : World) (hB : B ≤ w.heap.size) :
    Calls Try.prog 23 #[.slice A 0 c] w (RetW w ([], 0)) := by
  have HRT := Lib.hid (rightE_any A 0 c B [] w (EnsAt.nil _ _ _) hB (by omega))
  rw [show rightR [] = true from by decide] at HRT
  refine (callsIn_wide (n := 5)).1 ?_
  refine callsIn_of_wp_marks Try.func23 rfl trivial ?_ rfl
  simp only [Try.ntmps23, List.size_toArray, List.length_cons, List.length_nil, Nat.reduceAdd, Nat.reduceSub, Array.replicate_succ, Array.replicate_zero, List.push_toArray, List.append_toArray, List.nil_append, List.cons_append]
  gi_wp2_with (refine ⟨trivial, ?_⟩; gi_at_call 12; refine (callsIn_wide.2 HRT.out).mono ?_; rintro e w1 ⟨rfl, b1⟩)
  have HB1 := Lib.hid b1
  clear b1
  gi_wp2_with (refine ⟨trivial, ?_⟩; gi_at_call 37; refine (callsIn_wide.2 (chunk_any _ _ _ _)).mono ?_; rintro e w' ⟨rfl, rfl⟩)
  obtain ⟨W0, hW0⟩ : ∃ W0, (((w1.alloc (.cells #[.slice none 0 0] 36)).alloc (.cells #[.slice A 0 c] 22)).alloc (.cells #[.int .i64 8] 3)) = W0 := ⟨_, rfl⟩
  have e1 : (w1.alloc (.cells #[.slice none 0 0] 36)).heap.size = w1.heap.size + 1 := by simp
  have e2 : ((w1.alloc (.cells #[.slice none 0 0] 36)).alloc (.cells #[.slice A 0 c] 22)).heap.size = w1.heap.size + 1 + 1 := by simp
  have hsz : W0.heap.size = w1.heap.size + 1 + 1 + 1 := by rw [← hW0]; simp
  have hbP : Boxed W0 w1.heap.size 36 (.slice none 0 0) := by rw [← hW0]; exact ((Boxed.new w1 36 _).alloc _).alloc _
  have hb1 : Boxed W0 (w1.heap.size + 1) 22 (.slice A 0 c) := by
    rw [← hW0]
    have := (Boxed.new (w1.alloc (.cells #[.slice none 0 0] 36)) 22 (.slice A 0 c)).alloc (.cells #[.int .i64 8] 3)
    rwa [e1] at this
  have hb2 : Boxed W0 (w1.heap.size + 1 + 1) 3 (.int .i64 8) := by
    rw [← hW0]
    have := Boxed.new ((w1.alloc (.cells #[.slice none 0 0] 36)).alloc (.cells #[.slice A 0 c] 22)) 3 (.int .i64 8)
    rwa [e2] at this
  have hB0 : Below w.heap.size w W0 := by
    rw [← hW0]
    have h1 := HB1.out.size
    exact ((HB1.out.alloc h1 _).alloc (by rw [e1]; omega) _).alloc (by rw [e2]; omega) _
  rw [hW0]
  clear hW0 e1 e2
  have hw1 := HB1.out.size
  refine wpIn_rangeFunc_ownF rfl (by omega) (gf := 49) (lb := #[.pointer (some ⟨w1.heap.size + 1, 0, none⟩), .pointer (some ⟨w1.heap.size + 1 + 1, 0, none⟩)]) rfl trivial (enters_of Try.func49 (by kernel_rfl) rfl)
    (iterC_zero Fence.wide _ trivial rfl (w1.heap.size + 1) (w1.heap.size + 1 + 1) A c W0 hb1) KpC.t (KpC.b (by omega) (by omega)) (Below.refl _ _) (fun _ => rfl)
    (OutAt w W0.heap.size w1.heap.size [] (q := 0)) (fun _ _ _ => False) (OutAt.own w _ _ [] (by omega)) (fun _ _ _ _ _ hs _ _ => hs)
    ⟨⟨_, hbP, World.ownsRow_nil _ _ _ _, trivial⟩, Nat.le_refl _, hB0⟩
    (fun x => { tmps := #[.slice A 0 c, undef, .slice none 0 0, .int .i64 0, .pointer (some ⟨w1.heap.size, 0, none⟩), .slice (some ⟨0, 8 * x.1 * 2, none⟩) 8 8, undef, undef, undef, .slice A 0 c, .bool true, .bool false, .slice A 0 c, .func (.func 49) #[] #[.pointer (some ⟨w1.heap.size + 1, 0, none⟩), .pointer (some ⟨w1.heap.size + 1 + 1, 0, none⟩)], .slice (some ⟨0, 8 * x.1 * 2, none⟩) 8 8, undef, undef, undef, undef, undef, undef, undef, undef, undef, undef, undef, undef, undef, undef, undef], defers := [] })
    ?assign ?body ?done ?stop
  case assign =>
    intro l x W K hK
    simp only [chunkV]
    gi_wp2
    exact hK
  case body =>
    intro lr pre x
    exact x.elim0
  case done =>
    rintro D xs W hD rfl ⟨⟨v, hbox, hrow, -⟩, hsz', hb'⟩ hK
    have hc0 := hbox.cell
    have HROW := Lib.hid hrow
    have HB := Lib.hid hb'
    clear hrow hb' hbox
    gi_wp2
    refine ⟨by simp, .inl ⟨_, _, rfl, run_takeDeferred hK, ?_⟩⟩
    refine ⟨_, results_tmp2 rfl _ _ _, v, rfl, ?_, ?_⟩
    · exact own_base (HROW.out.kept (grownBy_putObj' W D _) (Or.inr fun e => by obtain ⟨cs, hcs⟩ := row_tag HROW.out e; rw [hK] at hcs; cases hcs)) (by omega)
    · exact HB.out.trans (belowK_b (w := w) (Nat.le_refl _) W D _ _ (by omega) hK rfl rfl)
  case stop =>
    rintro D c pre W _ _ h _
    exact h.elim

set_option maxHeartbeats 2000000 in
theorem writeB_no_any (A : Option Addr) (n c B : Nat) (l : List En) (w : World) (hA : EnsAt w B A n l) (hB : B ≤ w.heap.size) (hn : n ≤ 40000) (h0 : rightR l = false) :
    Calls Try.prog 23 #[.slice A n c] w (RetW w ([], 1)) := by
  have HRT := Lib.hid (rightE_any A n c B l w hA hB (by omega))
  rw [h0] at HRT
  refine (callsIn_wide (n := 5)).1 ?_
  refine callsIn_of_wp_marks Try.func23 rfl trivial ?_ rfl
  simp only [Try.ntmps23, List.size_toArray, List.length_cons, List.length_nil, Nat.reduceAdd, Nat.reduceSub, Array.replicate_succ, Array.replicate_zero, List.push_toArray, List.append_toArray, List.nil_append, List.cons_append]
  gi_wp2_with (refine ⟨trivial, ?_⟩; gi_at_call 12; refine (callsIn_wide.2 HRT.out).mono ?_; rintro e w1 ⟨rfl, b1⟩)
  refine ⟨_, results_tmp2 rfl _ _ _, _, rfl, World.ownsRow_nil _ _ _ _, b1⟩

theorem writeB_any (A : Option Addr) (n c B : Nat) (l : List En) (w : World) (hA : EnsAt w B A n l) (hB : B ≤ w.heap.size) (hn : n ≤ 40000) (hnc : n ≤ c) :
    Calls Try.prog 23 #[.slice A n c] w (RetW w (writeB l)) := by
  cases h0 : rightR l with
  | false => rw [writeB_no h0]; exact writeB_no_any A n c B l w hA hB hn h0
  | true =>
    rw [writeB_yes h0]
    rcases Nat.eq_zero_or_pos n with hz | hz
    · have hl : l = [] := List.eq_nil_of_length_eq_zero (by rw [hA.len, hz])
      subst hz
      subst hl
      exact writeB_nil A c B w hB
    · obtain ⟨b, o, rfl, -⟩ := hA.at_ hz
      exact writeB_some b o n c B l w hA hB hn hnc h0
end Go.Proofs.Ytmmjpdggneagdaa
