/-
  silolaw.Keys returns true for every script (each string and slice of it within the form's own reach), and the script reads behind the call as it did before. Conditions: three tables of Go's own library hold what their initialisers lay, which the card ties to the program's text.
-/
import Derived.Test.YtakipjofboipmaaGreatDoorJ35
import Derived.Test.YtakipjofboipmaaGreatDoorJ36
import Derived.Test.YtakipjofboipmaaGreatDoorCards
import Derived.Test.YtakipjofboipmaaGreatDoorTie
import Derived.Deep.DeepHandedRow
import Derived.Lib.LaidTab
import Derived.LaidSub
import Derived.Conc.HoldsTime
import Derived.StillGives
namespace Go.Proofs.YtakipjofboipmaaGreatDoor
open Go.ChangeShapes Go.WideShapes Go.ChangeAt Go.RowKit Go.Deep

theorem Tryz.laidOut : laidOutB Tryz.prog = true := by kernel_rfl
theorem Tryz.own : ownKnob Tryz.prog.godebug = none := by kernel_rfl
theorem gTab : Tryz.prog.globalNamed "internal/strconv.uint64pow10" = some 0 := by kernel_rfl
theorem gTabType : (Tryz.prog.globals[0]?).map (·.type) = some 300 := by kernel_rfl
theorem Tryz.cells300 : Tryz.prog.cellsOf 300 = 20 := by kernel_rfl
theorem Tryz.cells165 : Tryz.prog.cellsOf 165 = 1 := by kernel_rfl

def isTab (x : String × DataW Unit) : Bool := x.1 == "internal/strconv.uint64pow10"

theorem tab_kept : Rows.keysRow.laid.filter isTab = [("internal/strconv.uint64pow10", Lib.tabData .u64 Lib.pow10Tab)] := by kernel_rfl

/-- What the row's list gives: the table's cells hold its numbers. -/
theorem table {W : World} (h : laidMetH Tryz.prog Rows.keysRow.laid W) : Tab W := by
  have h1 := h.filter isTab
  rw [tab_kept] at h1
  exact Lib.tabIs_of_head (rest := []) gTab gTabType Tryz.underlying300 Tryz.underlying165 Tryz.cells165 Tryz.cells300 h1

set_option maxRecDepth 100000 in
/-- What the call leaves, for every script. -/
theorem keys_contract (H : Type) (enc : TypeId × Value → H) (W : World) (base : Nat) (args : Array Value) (ds gs : List (DataW H)) (before : List MemPlace)
    (hval : ∀ (j : Nat) t v, Tryz.f3.params[j]? = some t → args[j]? = some v → Value.okWide Tryz.prog W .any base t v)
    (hW : DataW.Whole enc Tryz.prog Tryz.f3.params.toList Rows.keysSpec.vars false W args.toList ds gs before) (hk : (DataW.weightsEach Tryz.prog (Tryz.f3.params.toList ++ (OpenSpec.ofChange Rows.keysSpec).bare.plain.varTypes Tryz.prog) (ds ++ gs)).all (· ≤ reachBytes) = true) (hL : laidMetH Tryz.prog Rows.keysRow.laid W) :
    Calls Tryz.prog 3 args W fun e W' => ∃ v, e = .returned v ∧ Rows.keysSpec.post enc Tryz.prog Tryz.f3 false true false false W args v W' := by
  have hW' := hW
  obtain ⟨p, q, hA0, hV, rfl, hfz, hnd⟩ := hW
  have hA : DataW.TrodAll enc Tryz.prog W 0 (fun _ => true) true Tryz.f3.params.toList args.toList ds p := hA0
  rw [Tryz.params3] at hA hval
  obtain ⟨v0, d0, rfl, rfl, h0⟩ := trodAll_one hA
  obtain ⟨rfl, rfl⟩ := trodVars_none hV
  obtain ⟨a0, len, cap, rfl⟩ := okWide_slice Tryz.underlying22 (hval 0 22 v0 rfl rfl)
  have h0k := h0
  obtain ⟨fuel, hf⟩ := h0
  clear hA0
  simp only [List.append_nil] at hW' hk
  have hfit : Fits 22 d0 := fun n hn => by
    have h1 := List.all_eq_true.1 hk n (DataW.weights_mem_each (j := 0) (t := 22) (d := d0) (by rw [Tryz.params3]; rfl) rfl n hn)
    exact of_decide_eq_true h1
  obtain ⟨os, hs, hn⟩ := script_of (v := .slice a0 len cap) hf hfit
  have hlt : ∀ x ∈ p, x.block < W.heap.size := fun x hx => by simpa using hW'.lt x hx
  have hT : ∀ w', Below W.heap.size W w' → Tab w' := Lib.tabBelow_of_tabIs (table hL)
  refine (keysLaw_any os _ W hs hT hn).mono fun e W' ⟨he, hbl⟩ => ?_
  subst he
  refine ⟨_, rfl, _, _, _, [], p, [], hW', ?_, ?_, ?_, hbl.frame _, fun h => by cases h⟩
  · exact trodAll_mk1 (shut_bool Tryz.underlying4 _)
  · exact trodAll_mk1 (Below.trod Tryz.laidOut (by kernel_rfl) (of_decide_eq_true (by kernel_rfl)) h0k hbl hlt)
  · rfl

def u8s (l : List Int) : Array Value := (l.map fun z => Value.int .u8 z).toArray

def tab32 : List Int := [0, 1, 28, 2, 29, 14, 24, 3, 30, 22, 20, 15, 25, 17, 4, 8, 31, 27, 13, 23, 21, 19, 16, 7, 26, 12, 18, 6, 11, 5, 10, 9]
def tab64 : List Int := [0, 1, 56, 2, 57, 49, 28, 3, 61, 58, 42, 50, 38, 29, 17, 4, 62, 47, 59, 36, 45, 43, 51, 22, 53, 39, 33, 30, 24, 18, 12, 5, 63, 55, 48, 27, 60, 41, 37, 16, 46, 35, 44, 21, 52, 32, 23, 11, 54, 26, 40, 15, 34, 20, 31, 10, 25, 14, 19, 9, 13, 8, 7, 6]

def putCells (c : Array Value) : Obj → Obj
  | .cells _ t frozen => .cells c t frozen
  | o => o

/-- A world for the witness: the tables hold what their initialisers lay. -/
def layTabs (w : World) : World :=
  { w with heap := ((w.heap.modify 0 (putCells (Lib.pow10Tab.map fun z => Value.int .u64 z).toArray)).modify 2 (putCells (u8s tab32))).modify 3 (putCells (u8s tab64)) }

theorem laid_met (os : Os) : laidMet Tryz.prog Rows.keysRow.laid ((layTabs (World.holding Tryz.prog os ⟨#[], #[], []⟩)).forCall (fun _ _ => 0) ⟨#[], #[.slice none 0 0], []⟩).memory :=
  laidMet_of_run' 8 (by kernel_rfl) (by kernel_rfl)

theorem reads (os : Os) {H : Type} (enc : TypeId × Value → H) : ∃ places, DataW.whole enc Tryz.prog ((layTabs (World.holding Tryz.prog os ⟨#[], #[], []⟩)).forCall (fun _ _ => 0) ⟨#[], #[.slice none 0 0], []⟩).memory Tryz.f3.params.toList Rows.keysSpec.vars false #[Value.slice none 0 0].toList 8 = some ([.nil], [], places) :=
  ⟨[], by kernel_rfl⟩

/-- A witness on a calm tape. -/
theorem witness_calm {H : Type} {enc : TypeId × Value → H} {C : Checked} {os : Os} {f : FuncId} {fn : Func} {s : OpenSpec} {conds : List PathCond} {apart : Bool} {laid : List (String × DataW Unit)} (w0 : World) (args : Array Value) (hos : w0.os = os)
    (hv : (w0.forCall (fun _ _ => 0) ⟨#[], args, []⟩).variablesB C.prog = true)
    (hr : ((w0.forCall (fun _ _ => 0) ⟨#[], args, []⟩).heap.toList.drop C.prog.globals.size).take ((begin C.prog (fun _ _ => 0) default).world.heap.size - C.prog.globals.size) =
      (begin C.prog (fun _ _ => 0) default).world.heap.toList.drop C.prog.globals.size)
    (hok : Input.okWideB C.prog (w0.forCall (fun _ _ => 0) ⟨#[], args, []⟩) f ⟨#[], args, []⟩ = true)
    (hrow : s.preRow enc C.prog fn conds apart laid (w0.forCall (fun _ _ => 0) ⟨#[], args, []⟩).memory args) :
    ∃ (w : World) (tape : Tape) (i : Input), w.os = os ∧ (w.forCall tape i).Shaped C.prog ∧ i.vars = [] ∧ Input.okWide C.prog (w.forCall tape i) .any w.heap.size f i ∧
      s.preRow enc C.prog fn conds apart laid (w.forCall tape i).memory i.args ∧ ({ calm := true } : Assume).holds C.prog (lone (Frame.enter C.prog f i.args .normal) [] (w.forCall tape i)) :=
  ⟨w0, fun _ _ => 0, ⟨#[], args, []⟩, hos, World.shaped_of_B hv hr, rfl, (Input.okWide_of_okWideB hok).2, hrow, by
    simp only [Assume.holds]
    exact ⟨by simp, fun _ _ _ _ => rfl, by simp, by simp, by simp⟩⟩

set_option maxRecDepth 100000 in
theorem keys_lifted (os : Os) (started : os.Started) (H : Type) (enc : TypeId × Value → H) (F : Stop.Interp) :
    ReturnsInHanded { calm := true } Tryz.checked os 3 .any ((OpenSpec.ofChange Rows.keysSpec).preRow enc Tryz.prog Tryz.f3 Rows.keysRow.domain false Rows.keysRow.laid) (((OpenSpec.ofChange Rows.keysSpec).at F).post enc Tryz.prog Tryz.f3 false true false false) := by
  obtain ⟨places, hx⟩ := reads os enc
  refine returnsInHanded_of_row (C := Tryz.checked) (s := OpenSpec.ofChange Rows.keysSpec) Tryz.own started (by kernel_rfl) Tryz.func3
    (witness_calm (enc := enc) (C := Tryz.checked) (layTabs (World.holding Tryz.prog os ⟨#[], #[], []⟩)) #[.slice none 0 0] rfl (by kernel_rfl) (by kernel_rfl) (by kernel_rfl)
      (OpenSpec.preRow_of_cond 8 hx (by kernel_rfl) (fun k hk => by cases hk) (by kernel_rfl) (laid_met os))) ?_
  intro W base args ds gs before hval hW _ _ hsz hL _ _
  exact keys_contract H enc W base args ds gs before hval hW hsz hL

/-- Whoever turns nothing of the outside keeps it but for the time. -/
theorem post_time {H : Type} {enc : TypeId × Value → H} {P : Program} {f : Func} {s : ChangeSpec} {F : Stop.Interp} {apart fresh handsOn : Bool} {W W' : World} {args : Array Value} {v : Value}
    (h : ((OpenSpec.ofChange s).at F).post enc P f apart fresh handsOn false W args v W') : (OpenSpec.ofChange s).postWith enc P f F (outsideKept [.timePasses]) apart fresh handsOn W args v W' := by
  have h' : s.post enc P f apart fresh handsOn false W args v W' := h
  have hos : W'.os = W.os := by
    obtain ⟨ds, gs, before, pr, pa, pv, _, _, _, _, h5, _⟩ := h'
    exact h5.1
  have e : { W' with os := W.os } = W' := by rw [← hos]
  exact postWith_of_post (by rw [e]; exact h') ⟨0, by rw [hos]; rfl⟩

theorem keys_leaving (os : Os) (started : os.Started) (H : Type) (enc : TypeId × Value → H) (F : Stop.Interp) :
    ReturnsInLeavingWide { calm := true } Tryz.checked os 3 .any ((OpenSpec.ofChange Rows.keysSpec).preRow enc Tryz.prog Tryz.f3 Rows.keysRow.domain false Rows.keysRow.laid) ((OpenSpec.ofChange Rows.keysSpec).postWith enc Tryz.prog Tryz.f3 F (outsideKept [.timePasses]) false true false) := fun enter =>
  ReturnsInOpen.mono (fun _ _ _ h => leaving_of_alone h) (fun _ h => h) (ReturnsInOpen.mono_post (fun _ _ _ _ h => post_time h) (keys_lifted os started H enc F enter))

theorem keys_said : Rows.KeysSaid :=
  OpenClaim.holds_of_wide_leaving_time 3 Tryz.f3 rfl rfl rfl rfl rfl rfl rfl ⟨rfl, rfl, rfl, rfl, rfl⟩ rfl rfl rfl rfl rfl (by kernel_rfl) Tryz.func3 (by kernel_rfl)
    (of_decide_eq_true (by kernel_rfl)) (by unfold Func.isWrapper; first | (rw [if_pos (by decide +kernel)]; kernel_rfl) | (rw [if_neg (by decide +kernel)]; exact ⟨rfl, rfl⟩))
    (fun os started H enc _ F => by rw [OpenClaim.pre_eq_preRow]; exact keys_leaving os started H enc F)

/-- No parameter wants a stand-in; the program's own looks are off. -/
theorem keys_plain (f : FuncId) (fn : Func) (hf : Tryz.pinned.checked.prog.funcNamed "silo/silolaw.Keys" = some f) (hfn : Tryz.pinned.checked.prog.funcs[f]? = some fn) :
    false = Tryz.pinned.checked.prog.looks [] ∧ ∀ (j : Nat) t, fn.params[j]? = some t → Tryz.pinned.checked.prog.wantsStandIn t = false := by
  obtain rfl : f = 3 := Option.some.inj ((show Tryz.prog.funcNamed "silo/silolaw.Keys" = some 3 by kernel_rfl).symm.trans hf) |>.symm
  obtain rfl : fn = Tryz.f3 := (Option.some.inj (Tryz.func3.symm.trans hfn)).symm
  refine ⟨by kernel_rfl, fun j t ht => ?_⟩
  rw [Tryz.params3] at ht
  obtain rfl : t = 22 := by simpa using Array.mem_of_getElem? ht
  exact (show Tryz.prog.wantsStandIn 22 = false by kernel_rfl)

theorem keys_card : Rows.KeysCardSaid := by
  refine ⟨?_, (fun D hD => by cases hD), keys_row_tie, (fun h => by cases h), by kernel_rfl⟩
  exact Claim7.tied_new_at .later (k := Rows.keysCard.stood) (ks := []) [.data, .data, .data] true
    (Claim7.new_of_sixth keys_said Rows.keysCard.stood.harness false rfl ⟨rfl, rfl⟩ (by kernel_rfl) (by kernel_rfl) keys_plain) (by kernel_rfl)
end Go.Proofs.YtakipjofboipmaaGreatDoor
