/-
  THE FRAME of the rows: texts, and a slice of texts, that came in, as lists of bytes; internal/bytealg.MaxLen holds an int in whatever world is of the program's shape; the wrap that keeps the shape beside the listed variables; a world in which the listed tables lie. No condition.
-/
import Derived.Test.YtcijpefddicmiaaDoorAhead
import Derived.Test.YtcijpefddicmiaaDoorTie
import Derived.Test.YtcijpefddicmiaaDoorCards
import Derived.ProofKit
import Derived.OpenShut
import Derived.ShutString
import Derived.ChangeOld
import Derived.SizedLaws
import Derived.SliceStrings
import Derived.Shelf.Vars
import Derived.Lay
import Derived.LaidOnce
import Derived.SevenTiedAt
namespace Go.Proofs.YtcijpefddicmiaaDoor
open Go.ChangeShapes Go.WideShapes Go.ChangeAt Go.RowKit
open Go.ChangeMaps (open_string shut_string)

theorem own : ownKnob Tryd.prog.godebug = none := by kernel_rfl
theorem laidOut : laidOutB Tryd.prog = true := by kernel_rfl
theorem bytes9 : Tryd.prog.bytesOf 9 = 16 := by kernel_rfl
theorem cells9 : Tryd.prog.cellsOf 9 = 1 := by kernel_rfl

theorem max_at {W : World} (h : W.ShapedOpen Tryd.prog) : MaxAt W := cell_of_shapedOpen_int (g := 0) (t := 3) (zero := #[.int .i64 0]) h (of_decide_eq_true (by kernel_rfl)) (by kernel_rfl) rfl (by kernel_rfl) (by kernel_rfl) Tryd.underlying3

/-- THE WRAP: 'returnsInHanded_of_change_and', the world's shape kept. -/
theorem returns_shaped {H : Type} {enc : TypeId × Value → H} {a : Assume} {C : Checked} {os : Os} {f : FuncId} {fn : Func} {s : ChangeSpec} {conds : List PathCond} {apart fresh handsOn again : Bool} {X : World → Array Value → Prop}
    (own : ownKnob C.prog.godebug = none) (started : os.Started) (noInit : C.prog.inits.idxOf? f = none) (hfn : C.prog.funcs[f]? = some fn)
    (witness : ∃ (w : World) (tape : Tape) (i : Input), w.os = os ∧ (w.forCall tape i).Shaped C.prog ∧ i.vars = [] ∧ Input.okWide C.prog (w.forCall tape i) .any w.heap.size f i ∧
      ((s.pre enc C.prog fn conds apart (w.forCall tape i).memory i.args ∧ X (w.forCall tape i).memory i.args) ∧ sizedMet enc C.prog fn (OpenSpec.ofChange s) apart (w.forCall tape i).memory i.args) ∧ a.holds C.prog (lone (Frame.enter C.prog f i.args .normal) [] (w.forCall tape i)))
    (contract : ∀ (W : World) (base : Nat) (args : Array Value) (ds gs : List (DataW H)) (before : List MemPlace),
      (∀ (j : Nat) t v, fn.params[j]? = some t → args[j]? = some v → Value.okWide C.prog W .any base t v) →
      DataW.Whole enc C.prog fn.params.toList s.vars apart W args.toList ds gs before →
      (DataW.weightsEach C.prog (fn.params.toList ++ s.plain.varTypes C.prog) (ds ++ gs)).all (· ≤ reachBytes) = true → W.ShapedOpen C.prog →
      Calls C.prog f args W fun e W' => ∃ v, e = .returned v ∧ s.post enc C.prog fn apart fresh handsOn again W args v W') :
    ReturnsInHanded a C os f .any (fun w args => (s.pre enc C.prog fn conds apart w args ∧ X w args) ∧ sizedMet enc C.prog fn (OpenSpec.ofChange s) apart w args) (s.post enc C.prog fn apart fresh handsOn again) := by
  refine returnsInHanded_of_calls own started noInit witness ?_
  intro w tape i _ hsh _ hok hpre _
  obtain ⟨_, _, _, fn', hfn', _, _, _, _, hval⟩ := hok
  have e : fn' = fn := Option.some.inj (hfn'.symm.trans hfn)
  subst e
  obtain ⟨⟨⟨ds, gs, before, hw, hc⟩, hx⟩, hz⟩ := hpre
  have hw' := DataW.Whole.of_heap (w' := w.forCall tape i) (by rfl) hw
  refine (contract (w.forCall tape i) w.heap.size i.args ds gs before hval hw' (hz.weights hw) hsh).mono fun e W' ⟨v, he, hp⟩ => ?_
  subst he
  exact ChangeSpec.post_blind hp

def LAID : List (String × DataW Unit) := Rows.pathsNamesRow.laid
theorem laid_plain (w : World) : laidMetH Tryd.prog LAID w = laidMet Tryd.prog LAID w := by
  exact MakeChecks.laidMetH_plain _ _ _ (by kernel_rfl)

section
variable {H : Type} {enc : TypeId × Value → H} {W : World} {a : Option Addr} {len cap : Nat} {d : DataW H} {p : List MemPlace}
theorem strs_open (h : DataW.Trod enc Tryd.prog W 0 (fun _ => true) true 23 (.slice a len cap) d p)
    (hsz : ∀ elems spare, d = .slice elems spare → (elems.length + spare.length) * Tryd.prog.bytesOf 9 ≤ reachBytes) :
    ∃ ls, StrsAt W W.heap.size a len ls ∧ len ≤ 8796093022208 ∧ ∀ k, (ls.getD k []).length ≤ 9223372036854775807 := by
  obtain ⟨fuel, hf⟩ := h
  rcases open_strings Tryd.underlying23 Tryd.underlying9 cells9 hf with ⟨hcs, _⟩ | ⟨x, l, c, ss, hcs, _, hl, hm, hz, hx, hcell, hwz⟩
  · simp [Value.cells] at hcs
    obtain ⟨rfl, rfl, rfl⟩ := hcs
    exact ⟨[], StrsAt.nil _ _ _, by omega, by simp⟩
  · simp [Value.cells] at hcs
    obtain ⟨rfl, rfl, rfl⟩ := hcs
    have hz' : ss.length = cap := by simpa using hz
    have hd : d = .slice (ChangeShapes.strs (ss.take len)) (ChangeShapes.strs (ss.drop len)) := by injection hx
    have hs := hsz _ _ hd
    rw [bytes9] at hs
    simp only [ChangeShapes.strs, List.length_map, List.length_take, List.length_drop, reachBytes] at hs
    refine ⟨(ss.take len).map fun s => s.data.toList, ⟨by simp; omega, ?_⟩, by omega, ?_⟩
    · intro k hk
      have h1 := hcell k (by omega)
      have hspot : x.spot = none := by
        have := World.cell?_spot (hcell 0 (by omega))
        simpa [Addr.add] using this
      obtain ⟨b, o, spot⟩ := x
      have hs : spot = none := hspot
      subst hs
      rw [add_plain] at h1
      refine ⟨b, o, rfl, World.block_lt_of_cell? W _ h1, ?_⟩
      rw [h1]
      have hk2 : k < ss.length := by omega
      simp [List.getD, hk, hk2, bs_eq]
    · intro k
      rcases Nat.lt_or_ge k len with hk | hk
      · have hk2 : k < ss.length := by omega
        have := hwz ss[k] (List.getElem_mem hk2)
        have hm : ss[k].size ≤ 9223372036854775807 := this
        simp [List.getD, hk, hk2]
        exact hm
      · have : ((ss.take len).map fun s => s.data.toList)[k]? = none := by
          rw [List.getElem?_eq_none]; simp; omega
        rw [List.getD, this]; simp
end
end Go.Proofs.YtcijpefddicmiaaDoor
