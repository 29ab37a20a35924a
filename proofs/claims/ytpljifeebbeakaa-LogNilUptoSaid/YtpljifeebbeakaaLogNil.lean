/-
  LogNil: a log that isn't there does nothing. Condition (of the second form): what comes in is of bulk at most 1048576.
-/
import Derived.Test.YtpljifeebbeakaaLFrame
namespace Go.Proofs.Ytpljifeebbeakaa.logNil
open Go.ChangeShapes Go.WideShapes Go.ChangeAt Go.RowKit
open Go.ChangeMaps (open_string shut_string)

set_option maxRecDepth 100000 in
set_option maxHeartbeats 4000000 in
theorem walk (i : Int) (A : Option Addr) (zs : List Int) (c : Nat) (A2 : Option Addr) (bs : List Int) (c2 : Nat) (w : World) (_hi : -9223372036854775808 ≤ i ∧ i ≤ 9223372036854775807)
    (hb : IntsAt w w.heap.size A zs.length zs ∧ BysAt w w.heap.size A2 bs.length bs) (hn : zs.length ≤ 1048576) :
    Calls Try.prog 6 #[.int .i64 i, batV A zs.length c A2 bs.length c2] w fun e w' => e = .returned (.bool true) ∧ Below w.heap.size w w' := by
  have hbox0 : (w.alloc (.cells #[.slice A zs.length c, .slice A2 bs.length c2] 38)).cell? ⟨w.heap.size, 0, none⟩ = some (.slice A zs.length c) := cell_new w _ 38 0 rfl
  have hbox1 : (w.alloc (.cells #[.slice A zs.length c, .slice A2 bs.length c2] 38)).cell? ⟨w.heap.size, 1, none⟩ = some (.slice A2 bs.length c2) := cell_new w _ 38 1 rfl
  have HQ0 := Lib.hid hbox0
  have HQ1 := Lib.hid hbox1
  have HB0 : Hid (Below w.heap.size w (w.alloc (.cells #[.slice A zs.length c, .slice A2 bs.length c2] 38))) := (Below.refl _ _).alloc (Nat.le_refl _) _
  have HI := Lib.hid hb.1
  have HY := Lib.hid hb.2
  have LV := Lib.hid (lives_any (w.alloc (.cells #[.slice A zs.length c, .slice A2 bs.length c2] 38)))
  have HZ : Hid (w.heap.size < (w.alloc (.cells #[.slice A zs.length c, .slice A2 bs.length c2] 38)).heap.size) := by show _ < _; simp
  generalize zs.length = n at *
  generalize bs.length = n2 at *
  clear hb hbox0 hbox1
  unfold batV
  go_enter Try.func6, Try.ntmps6
  go_wp2_with fail
  refine LV.out.mono ?_
  rintro e w1 ⟨rfl, b1⟩
  have HB1 := Lib.hid (HB0.out.trans (b1.mono HB0.out.size))
  have q0 := bcell b1 HQ0.out HZ.out
  have q1 := bcell b1 HQ1.out HZ.out
  have HCH := Lib.hid (changes_any A A2 n c n2 c2 w.heap.size zs bs w1 (HI.out.below HB1.out (Nat.le_refl _)) (HY.out.keep fun p hp => HB1.out.cell hp) HB1.out.size (by omega))
  unfold batV at HCH
  clear b1 HQ0 HQ1 LV HI HY
  go_wp2_with fail
  refine (open_nil _).mono ?_
  rintro e w2 ⟨rfl, rfl⟩
  go_wp2_with fail
  refine (lread_nil i _).mono ?_
  rintro e w2 ⟨rfl, rfl⟩
  go_wp2_with fail
  refine HCH.out.mono ?_
  rintro e w3 ⟨v3, rfl, ho3, b3⟩
  have HB3 := Lib.hid (HB1.out.trans (b3.mono HB1.out.size))
  clear ho3 b3
  go_wp2_with fail
  refine (lcommit_nil v3 _).mono ?_
  rintro e w4 ⟨rfl, rfl⟩
  go_wp2_with fail
  refine (lsize_nil _).mono ?_
  rintro e w4 ⟨rfl, rfl⟩
  go_wp2_with fail
  refine (lcommits_nil _).mono ?_
  rintro e w4 ⟨rfl, rfl⟩
  go_wp2
  go_ret
  exact ⟨rfl, HB3.out⟩
set_option maxRecDepth 100000 in
theorem contract (H : Type) (enc : TypeId × Value → H) (W : World) (base : Nat) (args : Array Value) (ds gs : List (DataW H)) (before : List MemPlace)
    (hval0 : ∀ (j : Nat) t v, Try.f6.params[j]? = some t → args[j]? = some v → Value.okWide Try.prog W .any base t v)
    (hW : DataW.Whole enc Try.prog Try.f6.params.toList Rows.logNilSpec.vars false W args.toList ds gs before) (hk : Rows.uptoSmall H (ds ++ gs) = true) :
    Calls Try.prog 6 args W fun e W' => ∃ v, e = .returned v ∧ Rows.logNilSpec.post enc Try.prog Try.f6 false true false false W args v W' := by
  have hval : ∀ (j : Nat) t v, Try.f6.params[j]? = some t → args[j]? = some v → Value.okWide Try.prog W .any base t v := hval0
  have hmost := bulk_most hk
  have hW' := hW
  obtain ⟨p, q, hA0, hV, rfl, hfz, hnd⟩ := hW
  have hA : DataW.TrodAll enc Try.prog W 0 (fun _ => true) true Try.f6.params.toList args.toList ds p := hA0
  rw [Try.params6] at hA hval
  obtain ⟨v0, vs0, d0, ds0, p0, q0, hargs, rfl, rfl, h0, r0⟩ := trodAll_cons hA
  obtain ⟨v1, vs1, d1, ds1, p1, q1, rfl, rfl, rfl, h1, r1⟩ := trodAll_cons r0
  obtain ⟨rfl, rfl, rfl⟩ := trodAll_nil r1
  obtain rfl : args = #[v0, v1] := by cases args; simp_all
  obtain ⟨rfl, rfl⟩ := trodVars_none hV
  obtain ⟨n0, rfl, rfl, rfl, wn0⟩ := open_int Try.underlying3 (hval 0 3 v0 rfl rfl) h0
  have lt1 : ∀ x ∈ p1, x.block < W.heap.size := by obtain ⟨m, hm⟩ := h1; exact DataW.trod_lt m _ _ _ hm
  have m1 : Rows.uptoBulk d1 ≤ 1048576 := Nat.le_trans (bulk_part (by simp)) hmost
  obtain ⟨a1, z1, c1, aa1, y1, cc1, rfl, w1, b1⟩ := bat_open (hval 1 38 v1 rfl rfl) h1
  clear hA0 hval0
  refine (walk n0 a1 z1 c1 aa1 y1 cc1 W (i64_of_wf wn0) w1 (Nat.le_trans b1 m1)).mono fun e W' ⟨he, bel⟩ => ?_
  subst he
  exact ⟨_, rfl, _, _, _, [], _, [], hW', trodAll_mk1 (shut_bool Try.underlying4 _), (trodAll_cons_mk (shut_int Try.underlying3 wn0) (trodAll_cons_mk (Below.trod laidOut (by kernel_rfl) (of_decide_eq_true (by kernel_rfl)) h1 bel lt1) trodAll_mk0)), rfl, bel.frame _, fun h => by cases h⟩

set_option maxRecDepth 100000 in
theorem lifted (os : Os) (started : os.Started) (H : Type) (enc : TypeId × Value → H) (F : Stop.Interp) :
    ReturnsInHanded {} Try.checked os 6 .any ((Rows.OpenSpec.upto Rows.logNilSpec).pre6 enc Try.prog Try.f6 Rows.logNilUptoRow.domain false) (((Rows.OpenSpec.upto Rows.logNilSpec).at F).post enc Try.prog Try.f6 false true false false) := by
  refine returnsInHanded_of_cond (C := Try.checked) (s := Rows.OpenSpec.upto Rows.logNilSpec) (k := Rows.uptoSmall) rfl own started (by kernel_rfl) Try.func6
    (OpenSpec.witness (enc := enc) (C := Try.checked) (s := Rows.OpenSpec.upto Rows.logNilSpec) (k := Rows.uptoSmall) rfl false ⟨#[], #[.int .i64 0, .agg #[.slice none 0 0, .slice none 0 0]], []⟩ 8 (by kernel_rfl) (by kernel_rfl) (by kernel_rfl)
      (x := ([.lit (.int .i64 0), .agg [.nil, .nil]], [], [])) (by kernel_rfl) rfl (by kernel_rfl)) ?_
  intro W base args ds gs before hval hW _ hk _
  exact contract H enc W base args ds gs before hval hW hk

theorem over : Rows.logNilUptoRow.holds Try.pinned (Rows.OpenSpec.upto Rows.logNilSpec) :=
  OpenClaim.holds_of_cond 6 Try.f6 rfl rfl rfl rfl rfl rfl rfl ⟨rfl, rfl, rfl, rfl, rfl⟩ rfl rfl rfl rfl rfl (by kernel_rfl) Try.func6 (by kernel_rfl)
    (of_decide_eq_true (by kernel_rfl)) (by unfold Func.isWrapper; first | (rw [if_pos (by decide +kernel)]; kernel_rfl) | (rw [if_neg (by decide +kernel)]; exact ⟨rfl, rfl⟩))
    (fun os started H enc _ F => lifted os started H enc F)

end Go.Proofs.Ytpljifeebbeakaa.logNil
namespace Go.Proofs.Ytpljifeebbeakaa
theorem logNil_proved : Rows.LogNilUptoSaid := logNil.over
#print axioms logNil_proved
end Go.Proofs.Ytpljifeebbeakaa
