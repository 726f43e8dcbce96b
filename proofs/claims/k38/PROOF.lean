import PyProof.Rows.All
import Wide.All
import OpenK.AllK
import Wide.FinOn
import Lean
import PyProof.EqAt
import PyProof.EqKinds
import PyProof.TupleCall
import KE.KDictLaws
import KE.KDictOf
import KE.KEqDict
import KE.BitLaws
import PyProof.ZipIter
import PyProof.Rows.ZipGen
import PyProof.Rows.StrSplitAre
import PyProof.ExcInit
import PyProof.ExcBaseAll.ValueError
import PyProof.PassesOwn
import PyProof.StationsW
import PyProof.InstStoreFacts
import PyProof.ExcAttrAll.ValueError
import PyProof.NsDelKeeps
import KE.KListMore
import PyProof.P3Eq
import PyProof.Rows.TupDisplay
import PyProof.StrLawsReplace
import PyProof.StrCalls6
import PyProof.Rows.StrStrike
import KE.KRevIter
import KE.KDictList
import KE.KIntText
import PyProof.SumWalkG
import PySem.Challenge.RW_stopglass_k38_told_by_places
set_option Elab.async false
set_option linter.all false
set_option maxRecDepth 100000
section
namespace Hd
open PySem PySem.W PyProof.Rows
lay_quick PySem.W.topFrom
noncomputable abbrev TQ := PySem.W.Fast.tw370005188180407882 PySem.W.Fast.tw14364793385576792824
noncomputable abbrev OQ := PySem.W.Fast.tw4187177175401517315
noncomputable abbrev tp : Program := PySem.Challenge.pw_stopglass_k38_told_by_places
abbrev lo : List Str := [PySem.Str.ofString "ATOM_PLACES", PySem.Str.ofString "RECKONING_PLACES"]
def keeps : PySem.Stmt → Bool
 | .Assign [.Name x _] _ _ => !decide (x = "__name__")
 | _ => true
def viewOf (p : Program) : Program := { p with main := { p.main with body := p.main.body.filter keeps } }
abbrev Xf : Program → Shared → Bool := (fun p s => xlAt (viewOf p) [] s && recOk (RowW.records (OpenRow.toRowW (OpenLaw.row PySem.Challenge.rw_stopglass_k38_told_by_places))) s)
noncomputable def S0 (w : World) (os : OsState) : Shared := ⟨boot_heap w.params, Array.mk [], boot_drawn, boot_toks, os⟩
theorem ws : PySem.Challenge.rw_stopglass_k38_told_by_places.wellSaid = true := by kernel_rfl
section
local macro_rules | `(tactic| o_head $H) => `(tactic| (case Hk => exact $H))
noncomputable def hk : (H : Hook) ×' ((∀ P : Prop, P) → PySem.Challenge.rw_stopglass_k38_told_by_places.Holds) := by
 refine ⟨?Hk, fun h => ?m⟩
 rotate_left
 w_on; refine holds_law ws fun said => ?_; k_head; exact h _
end
noncomputable def fs {α β : Type} (x : α × β) : α := Prod.rec (fun a _ => a) x
noncomputable def sn {α β : Type} (x : α × β) : β := Prod.rec (fun _ b => b) x
def tk {α : Type} : Nat → List α → List α
 | 0, _ => []
 | _ + 1, [] => []
 | n + 1, a :: l => a :: tk n l
def dk {α : Type} : Nat → List α → List α
 | 0, l => l
 | _ + 1, [] => []
 | n + 1, _ :: l => dk n l
theorem tk_eq {α : Type} : ∀ (n : Nat) (l : List α), tk n l = l.take n
 | 0, _ => rfl
 | _ + 1, [] => rfl
 | n + 1, a :: l => congrArg (a :: ·) (tk_eq n l)
theorem dk_eq {α : Type} : ∀ (n : Nat) (l : List α), dk n l = l.drop n
 | 0, _ => rfl
 | _ + 1, [] => rfl
 | n + 1, _ :: l => dk_eq n l
theorem opt10 {σ a1 a2 a3 a4 a5 a6 a7 a8 ρ δ : Type} {x : Option σ} {f : σ → a1 × a2 × a3 × a4 × a5 × List a6 × a7 × a8 × ρ} {v : a1 × a2 × a3 × a4 × a5 × List a6 × a7 × a8 × ρ} {g : σ → List δ} {c : List δ} {n : Nat}
 (hA : x.map (fun s => ((f s).1)) = some (fs v))
 (hB : x.map (fun s => ((f s).2.2.1, (f s).2.2.2.2.1, (f s).2.2.2.2.2.2.1, (f s).2.2.2.2.2.2.2.1)) = some (fs (sn (sn v)), fs (sn (sn (sn (sn v)))), fs (sn (sn (sn (sn (sn (sn v)))))), fs (sn (sn (sn (sn (sn (sn (sn v)))))))))
 (hC : x.map (fun s => List.drop 2 ((f s).2.2.2.2.2.1)) = some (dk 2 (fs (sn (sn (sn (sn (sn v))))))))
 (hD : x.map (fun s => ((f s).2.2.2.1, (f s).2.2.2.2.2.2.2.2)) = some (fs (sn (sn (sn v))), sn (sn (sn (sn (sn (sn (sn (sn v)))))))))
 (hE : x.map (fun s => List.take n (g s)) = some (tk n c)) (hF : x.map (fun s => List.drop n (g s)) = some (dk n c))
 (hG : x.map (fun s => (List.take 2 ((f s).2.2.2.2.2.1), (f s).2.1)) = some (tk 2 (fs (sn (sn (sn (sn (sn v)))))), fs (sn v))) : x.map (fun s => (f s, g s)) = some (v, c) := by
 cases x with
 | none => cases hA
 | some s =>
  have eA := Option.some.inj hA
  have eB := Option.some.inj hB
  have eD := Option.some.inj hD
  have eG := Option.some.inj hG
  have eC : (f s).2.2.2.2.2.1 = fs (sn (sn (sn (sn (sn v))))) := by
   have e1 : List.take 2 (f s).2.2.2.2.2.1 = List.take 2 (fs (sn (sn (sn (sn (sn v)))))) := (congrArg (fun z => z.1) eG).trans (tk_eq 2 _)
   have e2 : List.drop 2 (f s).2.2.2.2.2.1 = List.drop 2 (fs (sn (sn (sn (sn (sn v)))))) := (Option.some.inj hC).trans (dk_eq 2 _)
   rw [← List.take_append_drop 2 (f s).2.2.2.2.2.1, ← List.take_append_drop 2 (fs (sn (sn (sn (sn (sn v)))))), e1, e2]
  have eE : List.take n (g s) = List.take n c := (Option.some.inj hE).trans (tk_eq n c)
  have eF : List.drop n (g s) = List.drop n c := (Option.some.inj hF).trans (dk_eq n c)
  have eg : g s = c := by rw [← List.take_append_drop n (g s), ← List.take_append_drop n c, eE, eF]
  have key : ∀ u w : a1 × a2 × a3 × a4 × a5 × List a6 × a7 × a8 × ρ, u.1 = fs w → u.2.1 = fs (sn w) → u.2.2.1 = fs (sn (sn w)) → u.2.2.2.1 = fs (sn (sn (sn w))) → u.2.2.2.2.1 = fs (sn (sn (sn (sn w)))) → u.2.2.2.2.2.1 = fs (sn (sn (sn (sn (sn w))))) → u.2.2.2.2.2.2.1 = fs (sn (sn (sn (sn (sn (sn w)))))) → u.2.2.2.2.2.2.2.1 = fs (sn (sn (sn (sn (sn (sn (sn w))))))) → u.2.2.2.2.2.2.2.2 = sn (sn (sn (sn (sn (sn (sn (sn w))))))) → u = w := by
   rintro ⟨u1, u2, u3, u4, u5, u6, u7, u8, ur⟩ ⟨v1, v2, v3, v4, v5, v6, v7, v8, vr⟩ h1 h2 h3 h4 h5 h6 h7 h8 h9
   cases h1; cases h2; cases h3; cases h4; cases h5; cases h6; cases h7; cases h8; cases h9
   rfl
  have ef : f s = v := key _ _ (Option.some.inj hA) (congrArg (fun z => z.2) eG) (congrArg (fun z => z.1) eB) (congrArg (fun z => z.1) eD) (congrArg (fun z => z.2.1) eB) eC (congrArg (fun z => z.2.2.1) eB) (congrArg (fun z => z.2.2.2) eB) (congrArg (fun z => z.2) eD)
  show some (f s, g s) = _
  rw [ef, eg]
theorem r1c : ∀ (w : World) (os : OsState), (TQ tp (w.withFollow "special-get-raises" true) 20000 (S0 (w.withFollow "special-get-raises" true) os)).map (fun s => List.drop 2 ((OQ (viewOf tp) lo (importedModules tp.main.body) (Xf tp) true s).2.2.2.2.2.1)) = some (dk 2 (fs (sn (sn (sn (sn (sn (openGood (viewOf tp) lo)))))))) := by
 intro w os; kernel_rfl
theorem r0c : ∀ (w : World) (os : OsState), (TQ tp (w.withFollow "special-get-raises" false) 20000 (S0 (w.withFollow "special-get-raises" false) os)).map (fun s => List.drop 2 ((OQ (viewOf tp) lo (importedModules tp.main.body) (Xf tp) true s).2.2.2.2.2.1)) = some (dk 2 (fs (sn (sn (sn (sn (sn (openGood (viewOf tp) lo)))))))) := by
 intro w os; kernel_rfl
theorem r1a : ∀ (w : World) (os : OsState), (TQ tp (w.withFollow "special-get-raises" true) 20000 (S0 (w.withFollow "special-get-raises" true) os)).map (fun s => ((OQ (viewOf tp) lo (importedModules tp.main.body) (Xf tp) true s).1)) = some ((fs (openGood (viewOf tp) lo))) := by
 intro w os; kernel_rfl
theorem r0a : ∀ (w : World) (os : OsState), (TQ tp (w.withFollow "special-get-raises" false) 20000 (S0 (w.withFollow "special-get-raises" false) os)).map (fun s => ((OQ (viewOf tp) lo (importedModules tp.main.body) (Xf tp) true s).1)) = some ((fs (openGood (viewOf tp) lo))) := by
 intro w os; kernel_rfl
theorem r1b : ∀ (w : World) (os : OsState), (TQ tp (w.withFollow "special-get-raises" true) 20000 (S0 (w.withFollow "special-get-raises" true) os)).map (fun s => ((OQ (viewOf tp) lo (importedModules tp.main.body) (Xf tp) true s).2.2.1, (OQ (viewOf tp) lo (importedModules tp.main.body) (Xf tp) true s).2.2.2.2.1, (OQ (viewOf tp) lo (importedModules tp.main.body) (Xf tp) true s).2.2.2.2.2.2.1, (OQ (viewOf tp) lo (importedModules tp.main.body) (Xf tp) true s).2.2.2.2.2.2.2.1)) = some ((fs (sn (sn (openGood (viewOf tp) lo)))), (fs (sn (sn (sn (sn (openGood (viewOf tp) lo)))))), (fs (sn (sn (sn (sn (sn (sn (openGood (viewOf tp) lo)))))))), (fs (sn (sn (sn (sn (sn (sn (sn (openGood (viewOf tp) lo)))))))))) := by
 intro w os; kernel_rfl
theorem r1d : ∀ (w : World) (os : OsState), (TQ tp (w.withFollow "special-get-raises" true) 20000 (S0 (w.withFollow "special-get-raises" true) os)).map (fun s => ((OQ (viewOf tp) lo (importedModules tp.main.body) (Xf tp) true s).2.2.2.1, (OQ (viewOf tp) lo (importedModules tp.main.body) (Xf tp) true s).2.2.2.2.2.2.2.2)) = some ((fs (sn (sn (sn (openGood (viewOf tp) lo))))), (sn (sn (sn (sn (sn (sn (sn (sn (openGood (viewOf tp) lo)))))))))) := by
 intro w os; kernel_rfl
theorem r1g : ∀ (w : World) (os : OsState), (TQ tp (w.withFollow "special-get-raises" true) 20000 (S0 (w.withFollow "special-get-raises" true) os)).map (fun s => (List.take 2 ((OQ (viewOf tp) lo (importedModules tp.main.body) (Xf tp) true s).2.2.2.2.2.1), (OQ (viewOf tp) lo (importedModules tp.main.body) (Xf tp) true s).2.1)) = some (tk 2 (fs (sn (sn (sn (sn (sn (openGood (viewOf tp) lo))))))), (fs (sn (openGood (viewOf tp) lo)))) := by
 intro w os; kernel_rfl
theorem r1e : ∀ (w : World) (os : OsState), (TQ tp (w.withFollow "special-get-raises" true) 20000 (S0 (w.withFollow "special-get-raises" true) os)).map (fun s => List.take 200 (Hook.obs hk.1 s : List (Option Obj))) = some (tk 200 (Hook.val hk.1 (w.withFollow "special-get-raises" true) : List (Option Obj))) := by
 intro w os; kernel_rfl
theorem r1f : ∀ (w : World) (os : OsState), (TQ tp (w.withFollow "special-get-raises" true) 20000 (S0 (w.withFollow "special-get-raises" true) os)).map (fun s => List.drop 200 (Hook.obs hk.1 s : List (Option Obj))) = some (dk 200 (Hook.val hk.1 (w.withFollow "special-get-raises" true) : List (Option Obj))) := by
 intro w os; kernel_rfl
theorem r1 : ∀ (w : World) (os : OsState), (TQ tp (w.withFollow "special-get-raises" true) 20000 (S0 (w.withFollow "special-get-raises" true) os)).map (fun s => (OQ (viewOf tp) lo (importedModules tp.main.body) (Xf tp) true s, Hook.obs hk.1 s)) = some ((openGood (viewOf tp) lo), Hook.val hk.1 (w.withFollow "special-get-raises" true)) := fun w os => opt10 (r1a w os) (r1b w os) (r1c w os) (r1d w os) (r1e w os) (r1f w os) (r1g w os)
theorem r0b : ∀ (w : World) (os : OsState), (TQ tp (w.withFollow "special-get-raises" false) 20000 (S0 (w.withFollow "special-get-raises" false) os)).map (fun s => ((OQ (viewOf tp) lo (importedModules tp.main.body) (Xf tp) true s).2.2.1, (OQ (viewOf tp) lo (importedModules tp.main.body) (Xf tp) true s).2.2.2.2.1, (OQ (viewOf tp) lo (importedModules tp.main.body) (Xf tp) true s).2.2.2.2.2.2.1, (OQ (viewOf tp) lo (importedModules tp.main.body) (Xf tp) true s).2.2.2.2.2.2.2.1)) = some ((fs (sn (sn (openGood (viewOf tp) lo)))), (fs (sn (sn (sn (sn (openGood (viewOf tp) lo)))))), (fs (sn (sn (sn (sn (sn (sn (openGood (viewOf tp) lo)))))))), (fs (sn (sn (sn (sn (sn (sn (sn (openGood (viewOf tp) lo)))))))))) := by
 intro w os; kernel_rfl
theorem r0d : ∀ (w : World) (os : OsState), (TQ tp (w.withFollow "special-get-raises" false) 20000 (S0 (w.withFollow "special-get-raises" false) os)).map (fun s => ((OQ (viewOf tp) lo (importedModules tp.main.body) (Xf tp) true s).2.2.2.1, (OQ (viewOf tp) lo (importedModules tp.main.body) (Xf tp) true s).2.2.2.2.2.2.2.2)) = some ((fs (sn (sn (sn (openGood (viewOf tp) lo))))), (sn (sn (sn (sn (sn (sn (sn (sn (openGood (viewOf tp) lo)))))))))) := by
 intro w os; kernel_rfl
theorem r0g : ∀ (w : World) (os : OsState), (TQ tp (w.withFollow "special-get-raises" false) 20000 (S0 (w.withFollow "special-get-raises" false) os)).map (fun s => (List.take 2 ((OQ (viewOf tp) lo (importedModules tp.main.body) (Xf tp) true s).2.2.2.2.2.1), (OQ (viewOf tp) lo (importedModules tp.main.body) (Xf tp) true s).2.1)) = some (tk 2 (fs (sn (sn (sn (sn (sn (openGood (viewOf tp) lo))))))), (fs (sn (openGood (viewOf tp) lo)))) := by
 intro w os; kernel_rfl
theorem r0e : ∀ (w : World) (os : OsState), (TQ tp (w.withFollow "special-get-raises" false) 20000 (S0 (w.withFollow "special-get-raises" false) os)).map (fun s => List.take 200 (Hook.obs hk.1 s : List (Option Obj))) = some (tk 200 (Hook.val hk.1 (w.withFollow "special-get-raises" false) : List (Option Obj))) := by
 intro w os; kernel_rfl
theorem r0f : ∀ (w : World) (os : OsState), (TQ tp (w.withFollow "special-get-raises" false) 20000 (S0 (w.withFollow "special-get-raises" false) os)).map (fun s => List.drop 200 (Hook.obs hk.1 s : List (Option Obj))) = some (dk 200 (Hook.val hk.1 (w.withFollow "special-get-raises" false) : List (Option Obj))) := by
 intro w os; kernel_rfl
theorem r0 : ∀ (w : World) (os : OsState), (TQ tp (w.withFollow "special-get-raises" false) 20000 (S0 (w.withFollow "special-get-raises" false) os)).map (fun s => (OQ (viewOf tp) lo (importedModules tp.main.body) (Xf tp) true s, Hook.obs hk.1 s)) = some ((openGood (viewOf tp) lo), Hook.val hk.1 (w.withFollow "special-get-raises" false)) := fun w os => opt10 (r0a w os) (r0b w os) (r0c w os) (r0d w os) (r0e w os) (r0f w os) (r0g w os)
theorem left_twin {p p' : Program} {F : Program → Program} {X : Program → Shared → Bool} {loose : List Str} {α : Type} {Yf : Shared → α} {Ya : World → α} {N : Nat} {g0 : Bool} (row : String) (ep : p = p') (e : opening p = plainProg p.main.scope.names) (hN : Nat.ble 600 N = true) (f : ∀ s, fenceModules? p s = some s)
  (h0 : ∀ (w : World) (os : OsState), (TQ p' (w.withFollow row false) N (S0 (w.withFollow row false) os)).map (fun s => (OQ (F p') loose (importedModules p'.main.body) (X p') g0 s, Yf s)) = some (openGood (F p') loose, Ya (w.withFollow row false)))
  (h1 : ∀ (w : World) (os : OsState), (TQ p' (w.withFollow row true) N (S0 (w.withFollow row true) os)).map (fun s => (OQ (F p') loose (importedModules p'.main.body) (X p') g0 s, Yf s)) = some (openGood (F p') loose, Ya (w.withFollow row true))) : LeftO p (F p) loose (X p) Yf Ya N g0 := fun w => by
 subst ep
 have key : ∀ b, (openEnds treeTable p (w.withFollow row b) N).map (fun s => (openSeen (F p) loose (importedModules p.main.body) (X p) g0 s, Yf s)) = some (openGood (F p) loose, Ya (w.withFollow row b)) := by
  intro b
  obtain ⟨s, hs, hv⟩ := Option.map_eq_some_iff.mp (boot_open e hN f (w.withFollow row b))
  have es : s = S0 (w.withFollow row b) s.os := by
   cases s
   simp only [Prod.mk.injEq] at hv
   obtain ⟨a1, a2, a3, a4⟩ := hv
   subst a1 a2 a3 a4
   rfl
  unfold openEnds
  rw [hs, es, PySem.W.Fast.te370005188180407882, PySem.W.Fast.te14364793385576792824, PySem.W.Fast.te4187177175401517315]
  cases b
  . exact h0 w s.os
  . exact h1 w s.os
 have e0 := World.withFollow_self w row
 have := key (w.params.followText row)
 rwa [e0] at this
theorem left : LeftO PySem.Challenge.pw_stopglass_k38_told_by_places (viewOf PySem.Challenge.pw_stopglass_k38_told_by_places) lo (Xf PySem.Challenge.pw_stopglass_k38_told_by_places) (Hook.obs hk.1) (Hook.val hk.1) 20000 true :=
 left_twin (p := PySem.Challenge.pw_stopglass_k38_told_by_places) (p' := tp) (F := viewOf) (X := Xf) (loose := lo) (Yf := Hook.obs hk.1) (Ya := Hook.val hk.1) (N := 20000) (g0 := true) "special-get-raises" rfl (by kernel_rfl) (by decide) (fun s => by kernel_rfl) r0 r1
theorem left_of {H : Hook} (e : H = hk.1) : LeftO PySem.Challenge.pw_stopglass_k38_told_by_places (viewOf PySem.Challenge.pw_stopglass_k38_told_by_places) lo (Xf PySem.Challenge.pw_stopglass_k38_told_by_places) (Hook.obs H) (Hook.val H) 20000 true := by subst e; exact left
local macro_rules | `(tactic| o_head $H) => `(tactic| (
 refine holds_open (q := viewOf PySem.Challenge.pw_stopglass_k38_told_by_places) (loose := lo) (Xt := Xf PySem.Challenge.pw_stopglass_k38_told_by_places) (XP := XL (viewOf PySem.Challenge.pw_stopglass_k38_told_by_places) []) (Yf := Hook.obs $H) (Ya := Hook.val $H) (YP := Hook.says $H) (N := 20000) ?hl (Hook.of $H) (Hook.keeps $H) (fun s e => xl_of s (Bool.and_eq_true_iff.mp e).1) XL.keeps (by rfl) (by rfl) (by rfl) (fun s e => recFacts_of (Bool.and_eq_true_iff.mp e).2) (by rfl) (by assumption) (by decide +kernel) ⟨rfl, rfl, rfl, rfl, rfl, by decide +kernel⟩ ?hw ?hc
 (case hl => exact left_of (H := $H) (by kernel_rfl))))
set_option maxHeartbeats 0 in
noncomputable def pk : (G : Prop) ×' (G → PySem.Challenge.rw_stopglass_k38_told_by_places.Holds) := by
 refine' ⟨_, fun h => _⟩
 rotate_left
 w_on; refine holds_law ws fun said => ?_; k_head; (case hw => w_witness2)
 exact h
end Hd
end
open PySem renaming wpAny_bind->HR,wpAny_pure->Ha,wpAny_field->IR,wpAny_holding->IW,wpAny_mono->Il,wpAny_setField_rec->Iu,wpAny_call_entry->Ix,wpAny_loadPart_at->Iz,wpAny_pyIter_list->J0,wpAny_newObj_type->J1,wpAny_pyIter_tuple->J7,wpAny_truthy_bool->JH,wpAny_seqItems->JL,wpAny_Call_Name_kw->JM,wpAny_execs_nil->JO,wpAny_execs_cons->Jb,wpAny_isSubtype_exc->Jd,wpAny_pyIter_enum->Jj,codeAny_mono->Jk,wpAny_typeOf->Jl,wpAny_call->Jp,wpAny_standAt->Jr,wpAny_passesOwn->Js,wpAny_setField->Jz,wpAny_pyNext_list_item->K4,wpAny_attempt->K7,wpAny_isTrue_Compare1->KA,wpAny_pyNext_list_end->KB,codeAny_builtin->KG,wpAny_rule->KI,wpAny_updateSeq_pair->KJ,wpAny_newFunctionEnv_cells->Ka,wpAny_letOwnedTupleGo_enum->Kc,wpAny_onRaise->Kd,wpAny_sequenceKey->Kf,wpAny_Call_method0_late->Ko,wpAny_pyNext_enum_itemD->Kr,wpAny_loadPart->Kv
open List renaming length_map->HS,length_append->HZ,mem_cons->Hh,mem_cons_self->Hj,size_toArray->Hn,map_append->Hq,mem_cons_of_mem->Hv,mem_append_right->Hz,mem_singleton->IC,not_mem_nil->ID,length_take->IE,map_cons->IF,mem_append->IH,length_cons->II,mem_map->IJ,take_add_one->IM,take_length->IP,append_nil->IQ,getElem_mem->IT,foldl_append->IX,flatMap_append->IZ,append_assoc->Ib,take_of_length_le->Ic,mem_append_left->Ik,map_map->Iq,flatten_cons->J2,idxOf_lt_length_of_mem->J3,length_drop->J5,lookup_cons->J6,length_eq_zero_iff->JJ,replicate_succ->JK,nodup_cons->JP,length_replicate->JQ,length_singleton->JR,length_nil->JS,length_range->JY,length_set->Je,foldl_cons->Jf,range_succ->Ju,length_zip->Jv,nodup_append->K2,flatMap_cons->K3,any_cons->K6,all_eq_true->K9,of_mem_zip->KD,forIn_cons->KE,filterMap_cons->KO,map_congr_left->KQ,mem_range->KR,drop_eq_getElem_cons->Kh,any_eq_true->Kl,mem_flatMap->Km,nil_append->Ku,drop_zero->Kw,forIn_nil->Kx,sum_cons->Kz
open Nat renaming le_refl->HY,le_trans->Hu,zero_le->Hw,lt_of_lt_of_le->IB,ne_of_lt->IG,lt_irrefl->Ia,lt_or_ge->Ig,not_lt_zero->Ir,lt_succ_self->Iw,lt_of_le_of_lt->J9,ne_of_gt->JC,le_succ->Ja,le_add_right->Jq,le_of_lt->Jw,zero_add->KH,min_eq_left->KM,mod_two_eq_zero_or_one->Ke,succ_ne_self->Kj,min_eq_right->Kk
open PySem.Heap renaming lt_size->Hm,size_push->Iy
open Bool renaming false_ne_true->Ho,and_eq_true->IN,false_eq_true->JA,eq_iff_iff->JD,or_false->Ky
open PySem.F renaming plainAttrs_list->Ht,slot_list_append->IK,type_list_append->IL,excBase_ValueError->J4,slot_list_extend->JF,type_list_extend->JG,slot_tuple_iterator_next->JV,slot_enumerate_getattribute->Ji,slot_enumerate_next->Jn,slot_list_getattribute->Jy,plainAttrs_dict->K0,slot_dict_get->KC,slot_zip_next->KL,slot_dict_itemiterator_iter->KN,args_tuple_iterator_next_1->KS,slot_dict_setdefault->KU,entry_tuple_iterator_next->KW,attrBase_ValueError->KY,kt_typeCall_dict_1->Kb,args_dict_init_2->Ki,args_dict_get_3->Kp,entry_dict_init->Kq,slot_dict_items->Ks,args_enumerate_next_1->Kt
open PyProof.Rows renaming callWith_type1->Ie,slot_tuple_getitem->Im,bitOr_and->K5
open Int renaming zero_add->Io,eq_ofNat_of_zero_le->Iv,toNat_natCast->JI,emod_lt_of_pos->JN,emod_nonneg->JT,fdiv_eq_ediv_of_nonneg->KZ
open Option renaming bind_some->Jc,isSome_iff_exists->Jx,map_some->KF
open Array renaming length_toList->KP
abbrev HU:=@List.getElem?_eq_getElem
abbrev HV:=@List.getElem?_eq_some_iff
abbrev HW:=@PySem.Heap.get?_push_of_some
abbrev HX:=@if_neg
abbrev He:=@if_pos
abbrev Hf:=@decide_eq_true
abbrev Hk:=@List.getElem?_map
abbrev Hr:=@congrArg
abbrev Hs:=@PySem.Heap.get?_push_size
abbrev IA:=@List.mem_of_getElem?
abbrev IS:=@List.getElem?_append_right
abbrev IU:=@decide_eq_false
abbrev IV:=@List.getElem?_append_left
abbrev Ii:=@List.getD_eq_getElem?_getD
abbrev Ij:=@of_decide_eq_true
abbrev Ip:=@PySem.Heap.get?_update_other
abbrev J8:=@PySem.Heap.get?_update_self
abbrev JB:=@List.getElem?_set_ne
abbrev JE:=@List.getElem?_take_of_lt
abbrev JU:=@List.mem_iff_getElem?
abbrev JW:=@Array.getElem?_eq_some_iff
abbrev JX:=@decide_eq_true_eq
abbrev JZ:=@List.getElem?_eq_none_iff
abbrev Jg:=@List.find?_cons
abbrev Jh:=@List.getElem?_set_self
abbrev Jm:=@List.getElem?_eq_none
abbrev Jo:=@PySem.Heap.get?_none_of_le
abbrev Jt:=@List.getElem?_zip_eq_some
abbrev K1:=@List.getElem?_inj
abbrev Kg:=@beq_iff_eq
abbrev Kn:=@List.getElem?_replicate
local macro_rules | `(tactic| walk_at "s") => `(tactic| exact ⟨rfl, rfl, rfl, by decide +kernel, rfl, by decide +kernel, by decide +kernel⟩)

set_option genSizeOf false
set_option bootstrap.genMatcherCode false
set_option compiler.extract_closed false
section
open Lean in
local macro_rules(kind:=Lean.Parser.Command.declaration)|s=>do{let d:=s[1];if s[0].getArgs.any fun x=>!x.getArgs.isEmpty then{Macro.throwUnsupported};let q←`(command|noncomputable def x:=y);let r:Syntax←(match d.getKind with|``Parser.Command.definition=>pure (s.setArg 1 (mkNode ``Parser.Command.theorem #[mkAtom "theorem ",d[1],mkNode ``Parser.Command.declSig #[d[2][0],d[2][1][0]],d[3]]))|``Parser.Command.abbrev=>if d[3][1].isOfKind ``Parser.Term.explicit then Macro.throwUnsupported else pure (mkNode s.getKind #[q.raw[0],mkNode ``Parser.Command.definition #[mkAtom "def ",d[1],d[2],d[3],mkNullNode]])|_=>Macro.throwUnsupported);return r.rewriteBottomUp fun x=>x.setInfo .none}
local macro_rules|`(#[$x,*])=>do{if x.getElems.isEmpty then{return ← `(by decide)};let mut a:Array Lean.Term:= .empty;for e in x.getElems do{let l:=(e.raw.isLit? `num).getD "0";if l.front=='0' then{a:=a.push e}else{for c in(Nat.toDigits 2 l.toNat!).tail do{a:=a.push (← if c=='1' then`(rfl)else`(_))}}};`(⟨$a,*⟩)}
local macro_rules|`(∅)=>`(by lia)
local macro_rules|`(tactic|let#[$x,*]:=$e)=>do{let a←x.getElems.mapM fun|`(_)=>`(rcasesPat|_)|`($i:ident)=>`(rcasesPat|$i:ident)|_=>Lean.Macro.throwUnsupported;`(tactic|obtain⟨$[$a:rcasesPat],*⟩:=$e)}
local macro_rules|`(tactic|show#[$x,*])=>`(tactic|refine#[$x,*])
local macro_rules|`(⇑$x)=>`(some $x)|`(↑$x)=>`(by simpa using $x)|`(↥$x)=>`(.ref $x)
local macro_rules|`($a\$b)=>`(($a).trans $b)|`($a*>$b)=>`(($a).mono $b)|`($a<*$b)=>`(($a).tup $b)
set_option hygiene false in
local macro_rules|`(0x0)=>`(by rfl)|`(0x1)=>`((show ao _ (.builtin "len") (bc K) from bh))|`(0x2)=>`((model X.prog X.w))|`(0x3)=>`((model prog w))|`(0x4)=>`(by decide +kernel)|`(0x5)=>`((Or.inl rfl))|`(0x6)=>`(by simp)|`(0x7)=>`((λacc kv=>putK acc kv.1 kv.2))|`(0x8)=>`((Str×List Mk))|`(0x9)=>`((Sum.inr f.name:aF))|`(0xA)=>`((List.toArray []))|`(0xB)=>`(((X.ts.map (Rk2.wv (Rk2.fOf fkv))).map V.int))|`(0xC)=>`((V.str.inj (bC z)))
noncomputable abbrev Hl:=Option
noncomputable abbrev K':=PySem.Value
noncomputable abbrev L5:=PySem.Shared
noncomputable abbrev L6:=PySem.Addr
noncomputable abbrev L7:=PySem.W.Frag
namespace L2
open PySem PySem.Spec PyProof.Rows
noncomputable abbrev aF:=Sum Int Str
abbrev iB:aF->K'->Bool
 | .inl k,v=>Value.isInt k v
 | .inr x,v=>Value.isStrOf x v
abbrev GT (w:World):aF->Int
 | .inl k=>hashInt k
 | .inr x=>hashStr w x
def ft:∀{k:aF} {v:K'},iB k v=true->(∃i t,k=Sum.inl i/\v=Value.int i t)\/(∃x t,k=Sum.inr x/\v=Value.str x t)
 | .inl i,v,h=>by let#[t,e]:=Value.isInt_shape (k:=i) (v:=v) h;exact .inl #[i,t,rfl,e]
 | .inr x,v,h=>by let#[t,e]:=Value.isStrOf_shape (x:=x) (v:=v) h;exact .inr #[x,t,rfl,e]
def DF (i:Int) (t:Tok):iB (.inl i) (.int i t)=true:=by simp [iB,Value.isInt]
def Gq (x:Str) (t:Tok):iB (.inr x) (.str x t)=true:=by simp [iB,Value.isStrOf]
def BM (a b:Int):decide ((Sum.inl a:aF)=Sum.inl b)=(a==b):=by
 by_cases e:a=b
 . subst e; simp
 . have h:¬ (Sum.inl a:aF)=Sum.inl b:=λq=>e (Sum.inl.inj q);rw[IU h];exact(beq_eq_false_iff_ne.mpr e).symm
def DN (a b:Str):decide ((Sum.inr a:aF)=Sum.inr b)=decide (a=b):=by
 by_cases e:a=b
 . subst e; simp
 . have h:¬ (Sum.inr a:aF)=Sum.inr b:=λq=>e (Sum.inr.inj q);rw[IU h,IU e]
def BO (a:Int) (b:Str):decide ((Sum.inl a:aF)=Sum.inr b)=false:=IU (λq=>nomatch q)
def AN (a:Str) (b:Int):decide ((Sum.inr a:aF)=Sum.inl b)=false:=IU (λq=>nomatch q)
abbrev br (prog:Program) (w:World):PySem.KeyKind prog w aF where
 is:=iB
 hash:=GT w
 inj:=λv a b ha hb=>by
   rcases ft ha with⟨i,t,rfl,rfl⟩|⟨x,t,rfl,rfl⟩
   . rcases ft hb with⟨j,u,rfl,e⟩|⟨y,u,rfl,e⟩
     . injection e with e1 _; rw[e1]
     . exact nomatch e
   . rcases ft hb with⟨j,u,rfl,e⟩|⟨y,u,rfl,e⟩
     . exact nomatch e
     . injection e with e1 _; rw[e1]
 byValue:=λk v h=>by rcases ft h with⟨i,t,rfl,rfl⟩|⟨x,t,rfl,rfl⟩ <;> rfl
 pyHash:=λhv h=>by
   rcases ft hv with⟨i,t,rfl,rfl⟩|⟨x,t,rfl,rfl⟩
   . exact wpAny_pyHash_int h
   . exact wpAny_pyHash_str h
 eqBool:=λhu hv h=>by
   rcases ft hu with⟨i,t,rfl,rfl⟩|⟨x,t,rfl,rfl⟩
   . rcases ft hv with⟨j,u,rfl,rfl⟩|⟨y,u,rfl,rfl⟩
     . rw[BM] at h; exact wpAny_eqBool_int h
     . rw[BO] at h; exact SeqAt.EqAt.int_str i t y u _ _ _ _ h
   . rcases ft hv with⟨j,u,rfl,rfl⟩|⟨y,u,rfl,rfl⟩
     . rw[AN] at h; exact SeqAt.EqAt.str_int x t j u _ _ _ _ h
     . rw[DN] at h; exact wpAny_eqBool_str h
 «strs»:=λk x t v h=>by
   rcases ft h with⟨i,u,rfl,e⟩|⟨y,u,rfl,e⟩
   . exact nomatch e
   . injection e with e1 _
     subst e1;cases v <;> rfl
def DZ (prog:Program) (w:World) (i:Int) (t:Tok):(br prog w).is (.inl i) (.int i t)=true:=DF i t
def F9 (prog:Program) (w:World) (x:Str) (t:Tok):(br prog w).is (.inr x) (.str x t)=true:=Gq x t
inductive V where
 | non|bl (b:Bool)|int (i:Int)|str (x:Str)|byt (b:Array UInt8)|flt (b:UInt64)|ref (a:Addr)|ty (n:String)
 deriving DecidableEq
abbrev aX:V->K'->Prop
 | .non,u=>u=Value.none
 | .bl b,u=>u=Value.bool b
 | .int i,u=>∃t,u=Value.int i t
 | .str x,u=>∃t,u=Value.str x t
 | .byt b,u=>∃t,u=Value.bytes b t
 | .flt b,u=>∃t,u=Value.float b t
 | .ref a,u=>u=Value.ref a
 | .ty n,u=>u=Value.type n
noncomputable abbrev aU:List V->List K'->Prop:=Paired aX
def aU.length {xs:List V} {us:List K'} (r:aU xs us):xs.length=us.length:=Paired.length r
def aU.get:∀{xs:List V} {us:List K'} {i:Nat} {x:V},aU xs us->xs[i]?=⇑x->∃u,us[i]?=⇑u/\aX x u:=by
 intro xs us i x h e
 induction h generalizing i with
 | nil=>simp at e
 | cons r t ih =>
   cases i with
   | zero=>simp at e; subst e; show#[5,r]
   | succ i =>
     let#[u,h1,h2]:=ih (i:=i) ↑e;show#[u,by simpa using h1,h2]
variable {u:K'}
def aU.set {x:V} (r:aX x u):∀{xs:List V} {us:List K'} (i:Nat),aU xs us->aU (xs.set i x) (us.set i u):=by
 intro xs us i h
 induction h generalizing i with
 | nil=>exact .nil
 | cons q t ih =>
   cases i with
   | zero=>exact .cons r t
   | succ i=>exact .cons q (ih i)
def aU.append:∀{xs ys:List V} {us ws:List K'},aU xs us->aU ys ws->aU (xs++ys) (us++ws):=by
 intro xs ys us ws h s
 induction h with
 | nil=>exact s
 | cons r t ih=>exact .cons r ih
def aU.take:∀{xs:List V} {us:List K'} (n:Nat),aU xs us->aU (xs.take n) (us.take n)
 | _,_,0,_=>.nil
 | _,_,_+1,.nil=>.nil
 | _,_,n+1,.cons r t=>.cons r (aU.take n t)
def aU.drop:∀{xs:List V} {us:List K'} (n:Nat),aU xs us->aU (xs.drop n) (us.drop n)
 | _,_,0,r=>r
 | _,_,_+1,.nil=>.nil
 | _,_,n+1,.cons _ t=>aU.drop n t
def aU.none_of:∀{xs:List V} {us:List K'} {i:Nat},aU xs us->xs[i]?=none->us[i]?=none:=λ{xs us i} r e=>by have h1:=r.length;have h2:xs.length<=i:=JZ.mp e;exact JZ.mpr ∅
abbrev d7:Hl V->Hl K'->Prop
 | some v,⇑u=>aX v u
 | none,none=>True
 | _,_=>False
abbrev KV {κ:Type}:List (κ×V)->List (κ×K')->Prop:=Paired λ(p:κ×V) (q:κ×K')=>p.1=q.1/\aX p.2 q.2
abbrev kV:aF->V
 | .inl i=>.int i
 | .inr x=>.str x
inductive HO where
 | lst (xs:List V)
 | tup (xs:List V)
 | dK (kvs:List (aF×V))|dT (kvs:List (List aF×V))
 | set (S:Int->Bool) (n:Nat)
 | ins (C dx:Addr) (fs:List (Str×V))
 | own (x:Addr)
 | xd (fs:List (Str×V))
 | met (f x:Addr)
 | rng (lo hi:Int)
 | frz (o:Obj) (u:HO)
 | tbl (ps:Array Value)
 | ext (φ:Heap->Prop)
noncomputable abbrev Hp:=L6->Hl HO
abbrev upd (H:Hp) (a:L6) (o:HO):Hp:=λb=>if b=a then ⇑o else H b
variable {H:Hp} {a:L6}
def aH {o:HO}:upd H a o a=⇑o:=by unfold upd; rw[He rfl]
def aM {b:L6}{o:HO} (h:b≠a):upd H a o b=H b:=by unfold upd; rw[HX h]
def eX {o u:HO}:upd (upd H a o) a u=upd H a u:=by funext b; unfold upd; split <;> rfl
def i5 {b:L6}{o u:HO} (h:H a=⇑o) (h':H b=⇑u) (d:o≠u):a≠b:=by intro e; subst e; rw[h] at h'; exact d (Option.some.inj h')
def cP {b:L6}{o:HO} (h:H a=⇑o) (h':H b=none):a≠b:=by intro e; subst e; rw[h] at h'; cases h'
section
variable (P:Program) (w:World)
abbrev bT (H:Hp) (h:Heap) (a:L6):HO->Prop
 | .lst xs=>xs.length<=sizeLine/\∃(its:List K') (n:Nat),aU xs its/\h.get? a=some { cls:=.type "list",data:=.seq its.toArray n }
 | .tup xs=>xs.length<=sizeLine/\∃its:List K',aU xs its/\IsTup h a its.toArray
 | .dK kvs=>kvs.length<=sizeLine/\(a==sysModules)=false/\∃vs,KV kvs vs/\h.DictOf (br P w) a vs
 | .dT kvs=>kvs.length<=sizeLine/\(a==sysModules)=false/\∃xs:List (List aF×L6×K'),
     Paired (λ(p:List aF×V) (q:List aF×L6×K')=>p.1=q.1/\H q.2.1=⇑(.tup (p.1.map kV))/\aX p.2 q.2.2) kvs xs /\
     ∃o es ep,h.get? a=⇑o/\o.ExactDict/\o.data=.dict es ep/\es.toList=xs.map (entryOfKey (tupleKind (br P w)))/\(xs.map (·.1)).Nodup
 | .set S n=>h.SetOf (intKind P w) a S n
 | .ins C dx fs=>H dx=⇑(.own a)/\fs.length<=1000/\dx≠a/\h.get? a=⇑(PySem.W.instObj C dx) /\
     ∃mA,h.Ns1 dx mA/\(∀f,d7 (fs.lookup f) (mA f))/\PySem.Within mA (fs.map (·.1))
 | .own _=>∃o,h.get? a=⇑o
 | .xd fs=>∃mA,h.Ns1 a mA/\∀f,d7 (fs.lookup f) (mA f)
 | .rng lo hi=>∃t u v,h.get? a=some { cls:=.type "range",data:=.fields (List.toArray [.int lo t,.int hi u,.int 1 v]) }
 | .frz o u=>h.get? a=⇑o/\bT H h a u
 | .tbl ps=>h.get? a=some { cls:=.none,data:=.fields ps }
 | .met f x=>h.get? a=⇑(PySem.W.methodObj ↥f ↥x)
 | .ext φ=>φ h/\(∃o,h.get? a=⇑o)/\∀h1 h2:Heap,φ h1->(∀o,h1.get? a=⇑o->h2.get? a=⇑o)->φ h2
abbrev az (H:Hp) (h:Heap):Prop:=∀a o,H a=⇑o->bT P w H h a o
end
section
variable {P:Program} {w:World} {H H':Hp} {h h':Heap} {a:L6} {o:HO}
def bT.lt (x:bT P w H h a o):a<h.objs.size:=by
 cases o with
 | lst xs=>let#[_,_,_,_,e]:=x; exact Hm e
 | tup xs=>let#[_,_,_,p]:=x; exact p.lt
 | dK kvs=>let#[_,_,_,_,o,_,_,e,_]:=x; exact Hm e
 | dT kvs=>let#[_,_,_,_,o,_,_,e,_]:=x; exact Hm e
 | set S n=>let#[o,_,_,_,e,_]:=x; exact Hm e
 | ins C dx fs=>let#[_,_,_,e,_]:=x; exact Hm e
 | own y=>let#[_,e]:=x; exact Hm e
 | xd fs=>obtain⟨_,⟨_,_,_,e,_⟩,_⟩:=x; exact Hm e
 | rng lo hi=>let#[_,_,_,e]:=x; exact Hm e
 | frz ob u=>let#[e,_]:=x; exact Hm e
 | tbl ps=>exact Hm (show h.get? a=⇑_ from x)
 | met f y=>exact Hm (show h.get? a=⇑_ from x)
 | ext φ=>obtain⟨_,⟨_,e⟩,_⟩:=x; exact Hm e
def Paired.mapP {α β:Type} {F G:α->β->Prop}:∀{l₁:List α} {l₂:List β},Paired F l₁ l₂->(∀a b,F a b->G a b)->Paired G l₁ l₂:=by
 intro l₁ l₂ h f
 induction h with
 | nil=>exact .nil
 | cons r t ih=>exact .cons (f _ _ r) ih
def bT.stay (x:bT P w H h a o) (k:∀b u,(b=a\/H b=⇑(.own a))->h.get? b=⇑u->h'.get? b=⇑u)
   (ho:∀b,H b=⇑(.own a)->H' b=⇑(.own a)) (ht:∀b xs,H b=⇑(.tup xs)->H' b=⇑(.tup xs)):bT P w H' h' a o:=by
 induction o with
 | lst xs=>let#[z,its,n,r,e]:=x; show#[z,its,n,r,k _ _ (.inl rfl) e]
 | tup xs=>let#[z,its,r,ob,e,c]:=x; show#[z,its,r,ob,k _ _ (.inl rfl) e,c]
 | dK kvs=>let#[z,y,vs,r,ob,es,ep,e,c]:=x; show#[z,y,vs,r,ob,es,ep,k _ _ (.inl rfl) e,c]
 | dT kvs =>
   let#[z,y,xs,r,ob,es,ep,e,c]:=x;show#[z,y,xs,Paired.mapP r λp q z=>#[z.1,ht _ _ z.2.1,z.2.2],ob,es,ep,k _ _ (.inl rfl) e,c]
 | set S n=>let#[ob,es,ep,t,e,c]:=x; show#[ob,es,ep,t,k _ _ (.inl rfl) e,c]
 | ins C dx fs =>
   obtain⟨d,z,ne,e,mA,⟨od,es,ep,e2,c⟩,r⟩:=x;show#[ho _ d,z,ne,k _ _ (.inl rfl) e,mA,#[od,es,ep,k _ _ (.inr d) e2,c],r]
 | own y=>let#[ob,e]:=x; show#[ob,k _ _ (.inl rfl) e]
 | xd fs=>obtain⟨mA,⟨od,es,ep,e,c⟩,r⟩:=x; show#[mA,#[od,es,ep,k _ _ (.inl rfl) e,c],r]
 | rng lo hi=>let#[t,u,v,e]:=x; show#[t,u,v,k _ _ (.inl rfl) e]
 | frz ob u ih=>let#[e,q]:=x; show#[k _ _ (.inl rfl) e,ih q]
 | tbl ps =>
   have e:h.get? a=some { cls:=.none,data:=.fields ps }:=x;show h'.get? a=some { cls:=.none,data:=.fields ps };exact k a _ (.inl rfl) e
 | met f y =>
   have e:h.get? a=⇑(PySem.W.methodObj ↥f ↥y):=x;show h'.get? a=⇑(PySem.W.methodObj ↥f ↥y);exact k a _ (.inl rfl) e
 | ext φ=>obtain⟨p,⟨o,e⟩,st⟩:=x; show#[st _ _ p λo q=>k _ _ (.inl rfl) q,#[o,k _ _ (.inl rfl) e],st]
def az.lt (x:az P w H h) (e:H a=⇑o):a<h.objs.size:=(x a o e).lt
def az.fresh (x:az P w H h) (e:h.objs.size<=a):H a=none:=by
 cases q:H a with
 | none=>rfl
 | some u=>exact absurd (IB (x.lt q) e) (Ia _)
def az.kept (x:az P w H h) (k:∀b u,h.get? b=⇑u->h'.get? b=⇑u):az P w H h':=λa o e =>
 (x a o e).stay (λb u _ q=>k b u q) (λ_ q=>q) λ_ _ q=>q
def az.laid (x:az P w H h) (k:∀b u,h.get? b=⇑u->h'.get? b=⇑u) (hp:h.objs.size<=a) (new:bT P w (upd H a o) h' a o):az P w (upd H a o) h':=λb u e=>by
 have hn:=x.fresh hp;by_cases hb:b=a
 . subst hb; rw[aH] at e; cases e; exact new
 . rw[aM hb] at e;exact(x b u e).stay (λc v _ q=>k c v q) (λc q=>by rw[aM (cP q hn)]; exact q) λc xs q=>by rw[aM (cP q hn)]; exact q
end
abbrev Rd (H:Hp) (a:L6) (u:HO):Prop:=H a=⇑u\/∃o,H a=⇑(.frz o u)
def Rd.of {u:HO} (h:H a=⇑u):Rd H a u:=.inl h
variable {P:Program} {w:World} {h:Heap}
def Rd.ok {u:HO} (r:Rd H a u) (x:az P w H h):bT P w H h a u:=by
 rcases r with r|⟨o,r⟩
 . exact x a u r
 . let#[_,q]:=x a _ r;exact q
abbrev kJ:Hl HO->Prop
 | some (.lst _)=>True
 | some (.dK _)=>True
 | some (.dT _)=>True
 | some (.set _ _)=>True
 | some (.ins _ _ _)=>True
 | some (.ext _)=>True
 | _=>False
section
variable {P:Program} {w:World} {H:Hp} {h h':Heap} {x e:L6} {o':HO}
def az.write (ok:az P w H h) (mu:kJ (H x)) (he:e=x\/H e=⇑(.own x)) (k:∀b u,b≠e->h.get? b=⇑u->h'.get? b=⇑u) (heo:∃u,h'.get? e=⇑u)
   (new:bT P w (upd H x o') h' x o'):az P w (upd H x o') h':=λb u q=>by
 have nown:∀c y,H c=⇑(.own y)->c≠x:=λc y r z=>by subst z; rw[r] at mu; exact mu
 have ntup:∀c xs,H c=⇑(.tup xs)->c≠x:=λc xs r z=>by subst z; rw[r] at mu; exact mu
 by_cases hb:b=x
 . subst hb; rw[aH] at q; cases q; exact new
 . rw[aM hb] at q;by_cases hbe:b=e
   . have q':H b=⇑(.own x):=by
       rcases he with z|z
       . exact absurd (hbe\z) hb
       . rw[hbe]; exact z
     rw[q] at q'; cases q';let#[v,hv]:=heo;show#[v,by rw[hbe]; exact hv]
   . refine(ok b u q).stay (λc v hc r=>k c v ?_ r) (λc r=>by rw[aM (nown c b r)]; exact r) λc xs r=>by rw[aM (ntup c xs r)]; exact r
     rcases hc with rfl|hc
     . exact hbe
     . rintro rfl;rcases he with z|z
       . exact nown c b hc z
       . rw[hc] at z; cases z; exact hb rfl
end
structure Un (fs ex:List Addr) (H H':Hp) (h h':Heap):Prop where
 keep:∀b o,h.get? b=⇑o->H b=none->b ∉ fs->b ∉ ex->h'.get? b=⇑o
 slot:∀b o,h.get? b=⇑o->H b=none->b∈fs->b ∉ ex->∃sl,h'.get? b=some { o with slots:=sl }
 free:∀b o,h.get? b=⇑o->H b=none->b ∉ ex->H' b=none
 there:∀b o,h.get? b=⇑o->b ∉ ex->∃o',h'.get? b=⇑o'
 tups:∀b xs,H b=⇑(.tup xs)->H' b=⇑(.tup xs)
 frzs:∀b o u,H b=⇑(.frz o u)->H' b=⇑(.frz o u)
 tbls:∀b ps,H b=⇑(.tbl ps)->∃more,H' b=⇑(.tbl (ps++more))
section
variable {fs fs' ex ex':List L6} {H H1 H2:Hp} {h h1 h2 h':Heap} {a x e:L6} {o:HO}
def Un.any (u:Un fs ex H H1 h h1) {b:L6} {ob:Obj} (q:h.get? b=⇑ob) (n:H b=none) (hx:b ∉ ex):∃sl,h1.get? b=some { ob with slots:=sl }:=by
 by_cases hb:b∈fs
 . exact u.slot b ob q n hb hx
 . show#[ob.slots,u.keep b ob q n hb hx]
def Un.kept (k:∀b u,h.get? b=⇑u->h'.get? b=⇑u):Un fs ex H H h h' :=
 #[λb ob q _ _ _=>k b ob q,λb ob q _ _ _=>#[ob.slots,k b ob q],λ_ _ _ n _=>n,λb ob q _=>#[ob,k b ob q],λ_ _ q=>q,λ_ _ _ q=>q,λ_ ps q=>#[0xA,by rw[q]; simp]]
def Un.refl:Un fs ex H H h h:=Un.kept λ_ _ q=>q
def Un.laid (k:∀b u,h.get? b=⇑u->h'.get? b=⇑u) (hp:h.objs.size<=a) (hn:H a=none):Un fs ex H (upd H a o) h h' where
 keep:=λb u q _ _ _=>k b u q
 slot:=λb u q _ _ _=>#[u.slots,k b u q]
 free:=λb u q n _=>by rw[aM (IG (IB (Hm q) hp))]; exact n
 there:=λb u q _=>#[u,k b u q]
 tups:=λb xs q=>by rw[aM (cP q hn)]; exact q
 frzs:=λb u xs q=>by rw[aM (cP q hn)]; exact q
 tbls:=λb ps q=>#[0xA,by rw[aM (cP q hn),q]; simp]
def Un.write (mu:kJ (H x)) (he:e=x\/H e=⇑(.own x)) (k:∀b u,b≠e->h.get? b=⇑u->h'.get? b=⇑u) (heo:∃u,h'.get? e=⇑u):Un fs ex H (upd H x o) h h':=by
 have hx:∀b,H b=none->b≠x:=λb n z=>by subst z; rw[n] at mu; exact mu
 have hb:∀b,H b=none->b≠e:=λb n z=>by
   subst z;rcases he with r|r
   . exact hx b n r
   . rw[n] at r; cases r
 have hm:∀b u,H b=⇑u->¬ kJ ⇑u->b≠x:=λb u q nm z=>by subst z; rw[q] at mu; exact nm mu
 show#[λb u q n _ _=>k b u (hb b n) q,λb u q n _ _=>#[u.slots,k b u (hb b n) q],λb u q n _=>by rw[aM (hx b n)]; exact n,λb u q _=>?_,
   λb xs q=>by rw[aM (hm b _ q λz=>z)]; exact q,λb u xs q=>by rw[aM (hm b _ q λz=>z)]; exact q,λb ps q=>#[0xA,by rw[aM (hm b _ q λz=>z),q]; simp]]
 by_cases hbe:b=e
 . subst hbe; exact heo
 . show#[u,k b u hbe q]
end
abbrev mN (h:Heap) (H:Hp):List L6:=(List.range h.objs.size).filter λa=>(H a).isSome
abbrev gI (h:Heap) (H:Hp):Heap:=PySem.W.hideAll h (mN h H)
def De (h:Heap) (H:Hp):(gI h H).objs.size=h.objs.size:=PySem.W.hideAll_size _ _
def G7 {b:L6} {o:Obj} (e:h.get? b=⇑o) (n:H b=none):(gI h H).get? b=⇑o :=
 PySem.W.hideAll_get _ e λhm=>by have q:(H b).isSome=true:=(List.mem_filter.mp hm).2;rw[n] at q; simp at q
def AK {b:L6} {o:Obj} (e:(gI h H).get? b=⇑o):h.get? b=⇑o/\H b=none:=by
 have e':h.get? b=⇑o:=PySem.W.of_hideAll (mN h H) e;show#[e',?_];cases q:H b with
 | none=>rfl
 | some x =>
   have hm:b∈mN h H:=List.mem_filter.mpr #[KR.mpr (Hm e'),by simp [q]];have z:(gI h H).get? b=none:=PySem.W.hideAll_none (mN h H) hm;rw[z] at e; cases e
structure Mod (K:W.Frag) (mg:Str->Option Value) (base:Heap):Prop where
 kin:K.In base
 glob:base.Ns mainGlobals mg
 blt:∃mb,base.Ns builtinsNs mb/\∀x:Str,x≠"__name__"->mb x=bootBuiltins x
 nolimit:base.NoLimit
structure Cx where
 prog:Program
 w:World
 K:W.Frag
 mg:Str->Option Value
 base:Heap
 A:Around
 N:List Str
 s₀:Shared
 H₀:Hp
 env:Env
 outer:List Env
 stack:List Env
 ex:List Addr
 fn:Str->Bool
 calm:Bool
 pn:List (Addr×Obj)
 xe:Value->Shared->Prop
abbrev cE (l:List Env):List L6:=l.filterMap (·.frame)
noncomputable abbrev Cx.fs (X:Cx):List L6:=cE X.outer
abbrev ky (sc:Scope) (x:Str):Prop:=sc.names.lookup x=some .local\/sc.names.lookup x=some .cell\/sc.names.lookup x=some .free
abbrev jS (sc:Scope) (x:Str):Prop:=sc.names.lookup x=some .local\/sc.names.lookup x=some .cell
abbrev wj (env:Env) (h:Heap) (m:Str->Hl K') (x:Str) (u:K'):Prop :=
 (env.kindOf x=some .local/\m x=⇑u)\/((env.kindOf x=some .cell\/env.kindOf x=some .free)/\∃c,env.cells.lookup x=⇑c/\h.IsCell c ⇑u)
structure Cx.Ok (X:Cx):Prop where
 mod:Mod X.K X.mg X.base
 kind:X.env.scope.kind=.function
 glob:X.env.globals=mainGlobals
 blt:X.env.builtins=builtinsNs
 above:X.s₀.heap.objs.size<=X.env.locals
 inj:∀x y c,X.env.cells.lookup x=⇑c->X.env.cells.lookup y=⇑c->x=y
 has:∀x,(X.env.kindOf x=some .cell\/X.env.kindOf x=some .free)->∃c,X.env.cells.lookup x=⇑c
 cab:∀x c,X.fn x=true->X.env.cells.lookup x=⇑c->X.s₀.heap.objs.size<=c
 hd:X.calm=true->X.A.handled=none
 frames:X.A.frames=⇑X.stack
 stk:X.stack=X.outer\/(X.stack=X.env::X.outer/\X.env.frame=⇑X.env.locals)
 exf:∀b∈X.ex,b≠X.env.locals/\∀x c,X.env.cells.lookup x=⇑c->c≠b
 bs:∀b o,X.base.get? b=⇑o->X.s₀.heap.get? b=⇑o/\X.H₀ b=none
 bsz:X.base.objs.size<=X.s₀.heap.objs.size
 noex:∀b o,X.base.get? b=⇑o->b ∉ X.ex
 exfs:∀b∈X.ex,b ∉ X.fs
 funs:X.s₀.heap.FunFrames X.base X.outer
 frf:∀b∈X.fs,X.H₀ b=none
structure Inv (X:Cx) (pins:List (Addr×Obj)) (σ:List (Option V)) (H:Hp) (s:Shared):Prop where
 ok:X.Ok
 os:s.os=X.s₀.os
 bare:AllBare s.gens
 base:Un X.fs X.ex X.H₀ H X.s₀.heap s.heap
 loc:∃m,s.heap.Ns X.env.locals m/\∀(i:Nat) (x:Str) (v:V),X.N[i]?=⇑x->σ[i]?=⇑⇑v->ky X.env.scope x->∃u,aX v u/\wj X.env s.heap m x u
 cell:∀x c,X.env.cells.lookup x=⇑c->∃v,s.heap.IsCell c v
 free:H X.env.locals=none
 freeC:∀x c,X.env.cells.lookup x=⇑c->H c=none
 pin:∀p∈X.pn++pins,s.heap.get? p.1=⇑p.2/\H p.1=none/\p.1≠X.env.locals/\p.1 ∉ X.fs/\∀v,p.2.data≠.cell v
 hok:az X.prog X.w H s.heap
 len:σ.length=X.N.length
variable {x:Str} {t' i:Nat} {M:Model} {E:K'->L5->Prop} {v:V}
section
variable {X:Cx} {pins:List (L6×Obj)} {σ:List (Hl V)} {H H':Hp} {s:L5} {h':Heap}
def Cx.Ok.nofr (ok:X.Ok) {b:L6} {o:Obj} (e:X.base.get? b=⇑o):b ∉ X.fs:=λhb=>by have:=(ok.funs.mem hb).1;rw[e] at this; cases this
def Inv.bs (I:Inv X pins σ H s):∀b o,X.base.get? b=⇑o->s.heap.get? b=⇑o/\H b=none:=λb o e =>
 #[I.base.keep b o (I.ok.bs b o e).1 (I.ok.bs b o e).2 (I.ok.nofr e) (I.ok.noex b o e),I.base.free b o (I.ok.bs b o e).1 (I.ok.bs b o e).2 (I.ok.noex b o e)]
def Inv.bk (I:Inv X pins σ H s):∀b o,X.base.get? b=⇑o->s.heap.get? b=⇑o:=λb o e=>(I.bs b o e).1
def Inv.mod (I:Inv X pins σ H s):Mod X.K X.mg X.base:=I.ok.mod
def Inv.kIn (I:Inv X pins σ H s):X.K.In s.heap:=I.ok.mod.kin.keeps I.bk
def Inv.lt (I:Inv X pins σ H s):X.env.locals<s.heap.objs.size:=by let#[_,hn,_]:=I.loc; exact hn.lt
def Inv.sz (I:Inv X pins σ H s):X.s₀.heap.objs.size<=s.heap.objs.size:=Hu I.ok.above (Jw I.lt)
def Inv.nofs (I:Inv X pins σ H s) (h:s.heap.objs.size<=a):a ∉ X.fs:=λhb=>by let#[_,o,ho,_]:=I.ok.funs.mem hb;exact absurd (IB (Hm ho) (Hu I.sz h)) (Ia _)
def Inv.cne (I:Inv X pins σ H s):∀x c,X.env.cells.lookup x=⇑c->c≠X.env.locals:=λx c e z=>by let#[v,o,ho,hd]:=I.cell x c e;obtain⟨m,⟨o',es,ep,ho',hd',_⟩,_⟩:=I.loc;rw[z,ho'] at ho; cases ho; rw[hd'] at hd; cases hd
def Inv.funs (I:Inv X pins σ H s):s.heap.FunFrames X.base X.outer:=by
 have all:∀(l:List Env),(∀b∈cE l,b∈X.fs)->X.s₀.heap.FunFrames X.base l->s.heap.FunFrames X.base l:=by
   intro l
   induction l with
   | nil=>intro _ _; trivial
   | cons env r ih =>
     intro hs hl;obtain⟨hk,⟨L,o,hf,hn,ho,hd⟩,hr⟩:=hl;have hL:L∈X.fs:=hs L (by unfold cE; rw[KO,hf]; exact Hj);let#[sl,e]:=I.base.slot L o ho (I.ok.frf L hL) hL λz=>I.ok.exfs L z hL;show#[hk,#[L,_,hf,hn,e,hd],ih (λb hb=>hs b (by unfold cE; rw[KO,hf]; exact Hv _ hb)) hr]
 exact all X.outer (λ_ hb=>hb) I.ok.funs
def Inv.stack (I:Inv X pins σ H s):s.heap.FunFrames X.base X.stack:=by
 rcases I.ok.stk with e|⟨e,hf⟩
 . rw[e]; exact I.funs
 . rw[e];let#[m,hn,_]:=I.loc;refine .cons (by rw[I.ok.kind]; decide) hf hn ?_ I.funs;exact Jo (Hu I.ok.bsz I.ok.above)
def Inv.stkSub (I:Inv X pins σ H s):∀b∈cE X.stack,b∈X.env.locals::X.fs:=λb hb=>by
 rcases I.ok.stk with e|⟨e,hf⟩
 . rw[e] at hb; exact Hv _ hb
 . rw[e] at hb;unfold cE at hb;rw[KO,hf] at hb;exact hb
def Inv.stkFree (I:Inv X pins σ H s):∀b∈cE X.stack,H b=none:=λb hb=>by
 rcases Hh.mp (I.stkSub b hb) with e|hb
 . rw[e]; exact I.free
 . let#[_,o,ho,_]:=I.ok.funs.mem hb;exact I.base.free b o ho (I.ok.frf b hb) λz=>I.ok.exfs b z hb
def Inv.step {g':Array GenState} {d':Drawn} {ch:List L6} (I:Inv X pins σ H s)
   (hch:∀b∈ch,(b∈X.ex\/X.s₀.heap.objs.size<=b)/\b≠X.env.locals/\(∀x c,X.env.cells.lookup x=⇑c->c≠b)/\∀p∈X.pn++pins,p.1≠b)
   (keep:∀b o,b≠X.env.locals->b ∉ X.fs->b ∉ ch->s.heap.get? b=⇑o->H b=none->h'.get? b=⇑o)
   (slot:∀b o,b≠X.env.locals->b∈X.fs->b ∉ ch->s.heap.get? b=⇑o->H b=none->∃sl,h'.get? b=some { o with slots:=sl }) (free:∀b o,b ∉ ch->s.heap.get? b=⇑o->H b=none->H' b=none)
   (there:∀b o,b ∉ ch->s.heap.get? b=⇑o->∃o',h'.get? b=⇑o')
   (tups:∀b xs,H b=⇑(.tup xs)->H' b=⇑(.tup xs)) (frzs:∀b o u,H b=⇑(.frz o u)->H' b=⇑(.frz o u)) (tbls:∀b ps,H b=⇑(.tbl ps)->∃more,H' b=⇑(.tbl (ps++more)))
   (ns:∀m,s.heap.Ns X.env.locals m->h'.Ns X.env.locals m) (hok:az X.prog X.w H' h') (hg:AllBare g') :
   Inv X pins σ H' { s with heap:=h',gens:=g',drawn:=d',toks:=t' }:=by
 have neL:∀b o,X.s₀.heap.get? b=⇑o->b≠X.env.locals:=λb o e=>IG (IB (Hm e) I.ok.above);have neC:∀b o,X.s₀.heap.get? b=⇑o->b ∉ X.ex->b ∉ ch:=λb o e hx hb=>by
   rcases (hch b hb).1 with z|z
   . exact hx z
   . exact absurd (IB (Hm e) z) (Ia _)
 have cellK:∀x c,X.env.cells.lookup x=⇑c->∀v,s.heap.IsCell c v->h'.IsCell c v:=λx c e v ⟨o,ho,hd⟩=>by
   have nch:c ∉ ch:=λz=>(hch c z).2.2.1 x c e rfl;by_cases hc:c∈X.fs
   . let#[sl,q]:=slot c o (I.cne x c e) hc nch ho (I.freeC x c e);show#[_,q,hd]
   . show#[o,keep c o (I.cne x c e) hc nch ho (I.freeC x c e),hd]
 show#[I.ok,I.os,hg,#[λb o e n hb hx=>?_,λb o e n hb hx=>?_,λb o e n hx=>?_,λb o e hx=>?_,λb xs e=>tups b xs (I.base.tups b xs e),λb o xs e=>frzs b o xs (I.base.frzs b o xs e),λb ps e=>?_],?_,λx c e=>?_,?_,λx c e=>?_,λp hp=>?_,hok,I.len]
 . exact keep b o (neL b o e) hb (neC b o e hx) (I.base.keep b o e n hb hx) (I.base.free b o e n hx)
 . let#[sl,e1]:=I.base.slot b o e n hb hx;let#[sl',e2]:=slot b _ (neL b o e) hb (neC b o e hx) e1 (I.base.free b o e n hx);show#[sl',e2]
 . let#[o',e1]:=I.base.there b o e hx;exact free b o' (neC b o e hx) e1 (I.base.free b o e n hx)
 . let#[o',e1]:=I.base.there b o e hx;exact there b o' (neC b o e hx) e1
 . let#[m1,e1]:=I.base.tbls b ps e;let#[m2,e2]:=tbls b _ e1;show#[m1++m2,by rw[e2,Array.append_assoc]]
 . let#[m,hn,hl]:=I.loc;show#[m,ns m hn,λi x v e1 e2 e3=>?_];let#[u,r,l]:=hl i x v e1 e2 e3;show#[u,r,?_];rcases l with l|⟨k,c,e,z⟩
   . exact .inl l
   . exact .inr #[k,c,e,cellK x c e _ z]
 . let#[v,z]:=I.cell x c e;show#[v,cellK x c e v z]
 . obtain⟨m,⟨o,_,_,ho,_⟩,_⟩:=I.loc;exact free _ o (λz=>(hch _ z).2.1 rfl) ho I.free
 . let#[v,o,ho,hd]:=I.cell x c e;exact free c o (λz=>(hch c z).2.2.1 x c e rfl) ho (I.freeC x c e)
 . let#[e,n,ne,nf,d]:=I.pin p hp;have nch:p.1 ∉ ch:=λz=>(hch p.1 z).2.2.2 p hp rfl;show#[keep p.1 p.2 ne nf nch e n,free p.1 p.2 nch e n,ne,nf,d]
def Inv.un (I:Inv X pins σ H s) (u:Un X.fs [] H H' s.heap h') (hok:az X.prog X.w H' h'):Inv X pins σ H' { s with heap:=h',toks:=t' }:=by
 obtain⟨m,⟨o,es,ep,ho,r⟩,_⟩:=id I.loc;let#[sl,hL]:=u.any ho I.free 0x6;exact I.step (g':=s.gens) (d':=s.drawn) (ch:=[]) (λ_ z=>nomatch z) (λb o _ hb _ e n=>u.keep b o e n hb 0x6) (λb o _ hb _ e n=>u.slot b o e n hb 0x6) (λb o _ e n=>u.free b o e n 0x6) (λb o _ e=>u.there b o e 0x6) u.tups u.frzs u.tbls (λm' hm=>by let#[o',es',ep',ho',r']:=hm;rw[ho] at ho'; cases ho';show#[_,es',ep',hL,r']) hok I.bare
def Inv.call {g':Array GenState} {d':Drawn} {ch:List L6} (I:Inv X pins σ H s) (u:Un (cE X.stack) ch H H' s.heap h') (hok:az X.prog X.w H' h') (hg:AllBare g')
   (hch:∀b∈ch,(b∈X.ex\/X.s₀.heap.objs.size<=b)/\b≠X.env.locals/\(∀x c,X.env.cells.lookup x=⇑c->c≠b)/\∀p∈X.pn++pins,p.1≠b) :
   Inv X pins σ H' { s with heap:=h',gens:=g',drawn:=d',toks:=t' }:=by
 obtain⟨m,⟨o,es,ep,ho,r⟩,_⟩:=id I.loc;let#[sl,hL]:=u.any ho I.free λz=>(hch _ z).2.1 rfl;exact I.step (ch:=ch) hch (λb o hL hb hc e n=>u.keep b o e n (λz=>(Hh.mp (I.stkSub b z)).elim hL hb) hc) (λb o _ _ hc e n=>u.any e n hc) (λb o hc e n=>u.free b o e n hc) (λb o hc e=>u.there b o e hc) u.tups u.frzs u.tbls (λm' hm=>by let#[o',es',ep',ho',r']:=hm;rw[ho] at ho'; cases ho';show#[_,es',ep',hL,r']) hok hg
def Inv.turned {it:L6} (I:Inv X pins σ H s) (k:∀b o,b≠it->s.heap.get? b=⇑o->h'.get? b=⇑o) (hn:H it=none) (hL:it≠X.env.locals)
   (h1:it∈X.ex\/X.s₀.heap.objs.size<=it) (h2:∀x c,X.env.cells.lookup x=⇑c->c≠it) (h3:∀p∈X.pn++pins,p.1≠it):Inv X pins σ H { s with heap:=h',toks:=t' }:=by
 have nit:∀b u,H b=⇑u->b≠it:=λb u e z=>by rw[z,hn] at e; cases e
 refine I.step (g':=s.gens) (d':=s.drawn) (ch:=[it]) (λb hb=>?_) (λb o _ _ hc e _=>k b o (λz=>hc (by simp [z])) e) (λb o _ _ hc e _=>#[o.slots,k b o (λz=>hc (by simp [z])) e]) (λ_ _ _ _ n=>n)
   (λb o hc e=>#[o,k b o (λz=>hc (by simp [z])) e]) (λ_ _ e=>e) (λ_ _ _ e=>e) (λb ps e=>#[0xA,by rw[e]; simp]) (λm hm=>?_) (λb u e=>?_) I.bare
 . have e:b=it:=↑hb
   subst e;show#[h1,hL,h2,h3]
 . let#[o,es,ep,ho,r]:=hm;show#[o,es,ep,k _ o (Ne.symm hL) ho,r]
 . refine(I.hok b u e).stay (λc v hc q=>k c v ?_ q) (λ_ q=>q) λ_ _ q=>q;rcases hc with z|z
   . rw[z]; exact nit b u e
   . exact nit c _ z
def Inv.tok (I:Inv X pins σ H s) (t:Nat):Inv X pins σ H { s with toks:=t }:=I.un (h':=s.heap) (t':=t) Un.refl I.hok
def Inv.kept {t':Nat} (I:Inv X pins σ H s) (k:∀b u,s.heap.get? b=⇑u->h'.get? b=⇑u):Inv X pins σ H { s with heap:=h',toks:=t' }:=I.un (Un.kept k) (I.hok.kept k)
def Inv.laid {a:L6} {o:HO} {t':Nat} (I:Inv X pins σ H s) (k:∀b u,s.heap.get? b=⇑u->h'.get? b=⇑u) (hp:s.heap.objs.size<=a) (new:bT X.prog X.w (upd H a o) h' a o) :
   Inv X pins σ (upd H a o) { s with heap:=h',toks:=t' }:=I.un (Un.laid k hp (I.hok.fresh hp)) (I.hok.laid k hp new)
def Inv.write {x e:L6} {o:HO} {t':Nat} (I:Inv X pins σ H s) (mu:kJ (H x)) (he:e=x\/H e=⇑(.own x)) (k:∀b u,b≠e->s.heap.get? b=⇑u->h'.get? b=⇑u) (heo:∃u,h'.get? e=⇑u)
   (new:bT X.prog X.w (upd H x o) h' x o):Inv X pins σ (upd H x o) { s with heap:=h',toks:=t' }:=I.un (Un.write mu he k heo) (I.hok.write mu he k heo new)
def Inv.weak {σ':List (Hl V)} (I:Inv X pins σ H s) (hl:σ'.length=σ.length) (w:∀(i:Nat) v,σ'[i]?=⇑⇑v->σ[i]?=⇑⇑v):Inv X pins σ' H s :=
 #[I.ok,I.os,I.bare,I.base,by let#[m,hn,hl']:=I.loc; show#[m,hn,λi x v e1 e2 e3=>hl' i x v e1 (w i v e2) e3],I.cell,I.free,I.freeC,I.pin,I.hok,hl\I.len]
def Inv.pins_of {pins':List (L6×Obj)} (I:Inv X pins σ H s) (h:∀p∈pins',s.heap.get? p.1=⇑p.2/\H p.1=none/\p.1≠X.env.locals/\p.1 ∉ X.fs/\∀v,p.2.data≠.cell v):Inv X pins' σ H s :=
 #[I.ok,I.os,I.bare,I.base,I.loc,I.cell,I.free,I.freeC,λp hp=>(IH.mp hp).elim (λz=>I.pin p (Ik _ z)) (h p),I.hok,I.len]
def qS {N:List Str} (hN:N.Nodup) {j:Nat}(a:N[i]?=⇑x) (b:N[j]?=⇑x):i=j:=by let#[h1,e1]:=HV.mp a;let#[h2,e2]:=HV.mp b;exact(List.getElem_inj hN).mp (e1\e2.symm)
def tu {A:Around} {Q:Unit->L5->Prop} (I:Inv X pins σ H s) (hN:X.N.Nodup) (hi:X.N[i]?=⇑x) (hx:jS X.env.scope x) (r:aX v u)
   (h:∀s',Inv X pins (σ.set i ⇑v) H s'->(∃a,Heap.SameBut a s.heap s'.heap/\(a=X.env.locals\/X.env.cells.lookup x=⇑a))->Q () s') (hf:X.fn x=true\/X.env.scope.names.lookup x=some .local:=by first|exact .inl rfl|exact .inr rfl|assumption):wpAny M A (storeName X.env x u) Q E s:=by
 let#[m,hn,hl]:=id I.loc;have hcls:(X.env.scope.kind==.class || (X.env.scope.kind==.module&&X.env.locals != X.env.globals))=false:=by rw[I.ok.kind]; rfl
 have hiσ:i<σ.length:=by rw[I.len]; exact(HV.mp hi).1
 have cne:=I.cne;have tracked:∀{a:L6} {h':Heap},(∃o,s.heap.get? a=⇑o/\H a=none)->Heap.SameBut a s.heap h'->az X.prog X.w H h':=λ{a h'} ha hs b ob e=>by
   let#[_,_,hfree]:=ha;refine(I.hok b ob e).stay (λc w' hc q=>(hs.2 c ?_)\q) (λ_ q=>q) λ_ _ q=>q;rintro rfl;rcases hc with rfl|hc
   . rw[hfree] at e; cases e
   . rw[hfree] at hc; cases hc
 rcases hx with hk|hk
 . refine wpAny_storeName_local hk hn (λh' hn' hs=>?_) hcls;let#[oL,_,_,hoL,_]:=id hn;refine h _ #[I.ok,I.os,I.bare,#[λb o e n hb hx=>?_,λb o e n hb hx=>?_,I.base.free,λb o e hx=>?_,I.base.tups,I.base.frzs,I.base.tbls],#[_,hn',λj y v' e1 e2 e3=>?_],λy c e=>?_,I.free,I.freeC,λp hp=>?_,tracked #[oL,hoL,I.free] hs,by simpa using I.len] #[_,hs,.inl rfl]
   . exact(hs.2 b (IG (IB (Hm e) I.ok.above))).trans (I.base.keep b o e n hb hx)
   . let#[sl,e1]:=I.base.slot b o e n hb hx;show#[sl,(hs.2 b (IG (IB (Hm e) I.ok.above)))\e1]
   . let#[o',e1]:=I.base.there b o e hx;show#[o',(hs.2 b (IG (IB (Hm e) I.ok.above)))\e1]
   . by_cases hj:j=i
     . subst hj;rw[hi] at e1; cases e1;rw[Jh hiσ] at e2;cases e2;show#[u,r,.inl #[hk,by simp]]
     . rw[JB (Ne.symm hj)] at e2;let#[u',r',q]:=hl j y v' e1 e2 e3;show#[u',r',?_];rcases q with⟨k,e⟩|⟨k,c,e,z⟩
       . refine .inl #[k,?_];have:y≠x:=λe=>hj (qS hN e1 (e ▸ hi));simp [this,e]
       . exact .inr #[k,c,e,z.sameBut hs (cne y c e)]
   . let#[w',z]:=I.cell y c e;show#[w',z.sameBut hs (cne y c e)]
   . let#[e,n,ne,nf,d]:=I.pin p hp;show#[(hs.2 p.1 ne)\e,n,ne,nf,d]
 . have hfn:X.fn x=true:=by
     rcases hf with z|z
     . exact z
     . rw[z] at hk; cases hk
   let#[c,hc]:=I.ok.has x (.inl hk);let#[w',z]:=I.cell x c hc;refine wpAny_storeName_cell I.ok.kind hk hc z (λh' hc' hs=>?_);let#[oc,hoc,hocd]:=id z;refine h { s with heap:=h' } #[I.ok,I.os,I.bare,#[λb o e n hb hx=>?_,λb o e n hb hx=>?_,I.base.free,λb o e hx=>?_,I.base.tups,I.base.frzs,I.base.tbls],#[m,hn.sameBut hs (Ne.symm (cne x c hc)),λj y v' e1 e2 e3=>?_],λy c' e=>?_,I.free,I.freeC,λp hp=>?_,tracked #[oc,hoc,I.freeC x c hc] hs,by simpa using I.len] #[c,hs,.inr hc]
   . exact(hs.2 b (IG (IB (Hm e) (I.ok.cab x c hfn hc)))).trans (I.base.keep b o e n hb hx)
   . let#[sl,e1]:=I.base.slot b o e n hb hx;show#[sl,(hs.2 b (IG (IB (Hm e) (I.ok.cab x c hfn hc))))\e1]
   . let#[o',e1]:=I.base.there b o e hx;show#[o',(hs.2 b (IG (IB (Hm e) (I.ok.cab x c hfn hc))))\e1]
   . by_cases hj:j=i
     . subst hj;rw[hi] at e1; cases e1;rw[Jh hiσ] at e2;cases e2;show#[u,r,.inr #[.inl hk,c,hc,hc']]
     . rw[JB (Ne.symm hj)] at e2;let#[u',r',q]:=hl j y v' e1 e2 e3;show#[u',r',?_];rcases q with q|⟨k,c',e,z'⟩
       . exact .inl q
       . refine .inr #[k,c',e,z'.sameBut hs ?_];rintro rfl;exact hj (qS hN e1 (I.ok.inj _ _ _ e hc ▸ hi))
   . by_cases hcc:c'=c
     . subst hcc; show#[_,hc']
     . let#[w2,z2]:=I.cell y c' e;show#[w2,z2.sameBut hs hcc]
   . let#[e,n,ne,nf,d]:=I.pin p hp;show#[(hs.2 p.1 ?_)\e,n,ne,nf,d];intro q;rw[q,hoc] at e;have q':oc=p.2:=Option.some.inj e;exact d w' (by rw[<- q']; exact hocd)
def qg {A:Around} {Q:Unit->L5->Prop} (I:Inv X pins σ H s) (hN:X.N.Nodup) (hi:X.N[i]?=⇑x) (hx:jS X.env.scope x) (r:aX v u)
   (h:∀s',Inv X pins (σ.set i ⇑v) H s'->Q () s') (hf:X.fn x=true\/X.env.scope.names.lookup x=some .local:=by first|exact .inl rfl|exact .inr rfl|assumption):wpAny M A (storeName X.env x u) Q E s :=
 tu I hN hi hx r (λs' I' _=>h s' I') hf
def Inv.call' {s':L5} {ch:List L6} (I:Inv X pins σ H s) (ho:s'.os=s.os) (u:Un (cE X.stack) ch H H' s.heap s'.heap) (hok:az X.prog X.w H' s'.heap) (hg:AllBare s'.gens)
   (hch:∀b∈ch,(b∈X.ex\/X.s₀.heap.objs.size<=b)/\b≠X.env.locals/\(∀x c,X.env.cells.lookup x=⇑c->c≠b)/\∀p∈X.pn++pins,p.1≠b):Inv X pins σ H' s':=by
 let#[h',g',d',t',o']:=s';have e:o'=s.os:=ho;subst e;exact I.call (g':=g') (t':=t') (d':=d') u hok hg hch
end
noncomputable abbrev XK:=K'->Hl L6->Hp->Prop
noncomputable abbrev St:=List (Hl V)
noncomputable abbrev VK:=V->Hp->Prop
noncomputable abbrev TE:=St->Hp->VK->Prop
noncomputable abbrev TT:=St->Hp->(Bool->Hp->Prop)->Prop
noncomputable abbrev TA:=St->Hp->(List V->Hp->Prop)->Prop
structure bn where
 nx:St->Hp->Prop
 rt:VK
 bk:St->Hp->Prop:=λ_ _=>False
 ct:St->Hp->Prop:=λ_ _=>False
noncomputable abbrev TS:=bn->St->Hp->Prop
abbrev EP (X:Cx) (pins:List (L6×Obj)) (σ:St) (Q:VK) (u:K') (s':L5):Prop:=∃v H',Inv X pins σ H' s'/\aX v u/\Q v H'
abbrev TP (X:Cx) (pins:List (L6×Obj)) (σ:St) (Q:Bool->Hp->Prop) (b:Bool) (s':L5):Prop:=∃H',Inv X pins σ H' s'/\Q b H'
abbrev AP (X:Cx) (pins:List (L6×Obj)) (σ:St) (Q:List V->Hp->Prop) (us:List K') (s':L5):Prop:=∃vs H',Inv X pins σ H' s'/\aU vs us/\Q vs H'
abbrev SP (X:Cx) (pins:List (L6×Obj)) (D:bn) (f:Flow) (s':L5):Prop :=
 match f with
 | .next=>∃σ' H',Inv X pins σ' H' s'/\D.nx σ' H'
 | .brk=>∃σ' H',Inv X pins σ' H' s'/\D.bk σ' H'
 | .cont=>∃σ' H',Inv X pins σ' H' s'/\D.ct σ' H'
 | .ret u=>∃v σ' H',Inv X pins σ' H' s'/\aX v u/\D.rt v H'
abbrev PE (X:Cx) (e:Expr) (t:TE):Prop :=
 ∀(pins:List (L6×Obj)) (s:L5) (σ:St) (H:Hp) (Q:VK),Inv X pins σ H s->t σ H Q->wpAny 0x2 X.A (eval e X.env) (EP X pins σ Q) X.xe s
abbrev PT (X:Cx) (e:Expr) (t:TT):Prop :=
 ∀(pins:List (L6×Obj)) (s:L5) (σ:St) (H:Hp) (Q:Bool->Hp->Prop),Inv X pins σ H s->t σ H Q->wpAny 0x2 X.A (isTrue e X.env (eval e X.env)) (TP X pins σ Q) X.xe s
abbrev PW (X:Cx) (e:Expr) (t:TT):Prop :=
 ∀(whole:Sem K') (pins:List (L6×Obj)) (s:L5) (σ:St) (H:Hp) (Q:Bool->Hp->Prop),Inv X pins σ H s->t σ H Q->wpAny 0x2 X.A (isTrue e X.env whole) (TP X pins σ Q) X.xe s
def PW.pt {X:Cx} {e:Expr} {t:TT} (h:PW X e t):PT X e t:=h _
abbrev PA (X:Cx) (es:List Expr) (t:TA):Prop :=
 ∀(pos:Pos) (pins:List (L6×Obj)) (s:L5) (σ:St) (H:Hp) (Q:List V->Hp->Prop),Inv X pins σ H s->t σ H Q->wpAny 0x2 X.A (spliced (backTo pos (starEach es X.env))) (AP X pins σ Q) X.xe s
abbrev PS (X:Cx) (st:Stmt) (t:TS):Prop :=
 ∀(pins:List (L6×Obj)) (s:L5) (σ:St) (H:Hp) (D:bn),Inv X pins σ H s->t D σ H->wpAny 0x2 X.A (exec st X.env) (SP X pins D) X.xe s
abbrev aO (X:Cx) (st:List Stmt) (t:TS):Prop :=
 ∀(pins:List (L6×Obj)) (s:L5) (σ:St) (H:Hp) (D:bn),Inv X pins σ H s->t D σ H->wpAny 0x2 X.A (execs st X.env) (SP X pins D) X.xe s
variable {us:List K'}
section
variable {X:Cx} {pins:List (L6×Obj)} {σ:St} {s:L5} {P:Prop}
def EP.e {Q:VK} (h:EP X pins σ Q u s) (f:∀v H,Inv X pins σ H s->aX v u->Q v H->P):P:=by let#[v,H,a,b,c]:=h;exact f v H a b c
def AP.e {Q:List V->Hp->Prop} (h:AP X pins σ Q us s) (f:∀vs H,Inv X pins σ H s->aU vs us->Q vs H->P):P:=by let#[v,H,a,b,c]:=h;exact f v H a b c
end
variable {s:L5}
def aQ {α:Type} {t:Sem α} {Q Q':α->L5->Prop} {A:Around} (h:wpAny M A t Q E s) (hQ:∀a s,Q a s->Q' a s):wpAny M A t Q' E s:=Il h hQ λ_ _ x=>x
variable {pos:Pos} {pins:List (L6×Obj)} {σ:St} {op:CmpOp}
section
variable {X:Cx}
abbrev wI (i:Nat):TE:=λσ H Q=>∃v,σ[i]?=⇑⇑v/\Q v H
abbrev tC (v:V):TE:=λ_ H Q=>Q v H
def BH (hN:X.N[i]?=⇑x) (hv:ky X.env.scope x) (hd:(x==("__debug__":Str))=false:=by decide) (hcd:(x==("__classdict__":Str))=false:=by decide):PE X (.Name x pos) (wI i):=by
 intro pins s σ H Q I h;let#[v,e,h]:=h;let#[m,hn,hl]:=I.loc;let#[u,r,l]:=hl i x v hN e hv;have fin:EP X pins σ Q u s:=#[v,H,I,r,h]
 rcases l with⟨hk,hm⟩|⟨hk,c,hc,hcell⟩
 . exact wpAny_Name (wpAny_loadName_local I.ok.kind hk hn hm fin) hd
 . rcases hk with hk|hk
   . exact wpAny_Name (wpAny_loadName_cell I.ok.kind hk hc hcell fin) hd
   . exact wpAny_Name (wpAny_loadName_free I.ok.kind hk hc hcell fin hcd) hd
def aJ {i j pos}:PE X (.Constant (.int i) j pos) (tC (.int i)):=λ_ _ _ H _ I h=>wpAny_Constant_int #[.int i,H,I.tok _,#[5],h]
def bW {b j pos}:PE X (.Constant (.bool b) j pos) (tC (.bl b)):=λ_ _ _ H _ I h=>Constant_bool #[.bl b,H,I,rfl,h]
def eE {j pos}:PE X (.Constant .none j pos) (tC .non):=λ_ _ _ H _ I h=>Constant_none #[.non,H,I,rfl,h]
def ah {x j pos}:PE X (.Constant (.str x) j pos) (tC (.str x)):=λ_ _ _ H _ I h=>Calls.Constant_str #[.str x,H,I.tok _,#[5],h]
abbrev Gl (X:Cx) (x:Str):Prop:=X.env.kindOf x=some .globalImplicit
def kz {Q:K'->L5->Prop} (I:Inv X pins σ H s) (hg:Gl X x) (hm:X.mg x=⇑u) (h:Q u s)
   (hd:(x==("__debug__":Str))=false:=by decide):wpAny 0x2 X.A (eval (.Name x pos) X.env) Q E s :=
 Calls.Name_function_global I.ok.kind hg (Calls.loadGlobal_global (by rw[I.ok.glob]; exact I.mod.glob.keeps I.bk) hm h) hd
def fV {Q:K'->L5->Prop} (I:Inv X pins σ H s) (hg:Gl X x) (hm:X.mg x=none) (hv:bootBuiltins x=⇑u) (h:Q u s)
   (hn:x≠"__name__":=by decide) (hd:(x==("__debug__":Str))=false:=by decide):wpAny 0x2 X.A (eval (.Name x pos) X.env) Q E s:=by
 let#[mb,h1,h2]:=I.mod.blt;exact Calls.Name_function_global I.ok.kind hg (Calls.loadGlobal_builtin (by rw[I.ok.glob]; exact I.mod.glob.keeps I.bk) hm (by rw[I.ok.blt]; exact h1.keeps I.bk) ((h2 x hn)\hv) h) hd
def qr (hg:Gl X x) (hm:X.mg x=⇑u) (r:aX v u) (hd:(x==("__debug__":Str))=false:=by decide):PE X (.Name x pos) (tC v) :=
 λ_ _ _ H _ I h=>kz I hg hm #[v,H,I,r,h] hd
def fw (hg:Gl X x) (hm:X.mg x=none) (hv:bootBuiltins x=⇑u) (r:aX v u) (hn:x≠"__name__":=by decide) (hd:(x==("__debug__":Str))=false:=by decide):PE X (.Name x pos) (tC v) :=
 λ_ _ _ H _ I h=>fV I hg hm hv #[v,H,I,r,h] hn hd
variable {a b:Expr} {ta tb:TE} {pos:Pos}
abbrev PC (X:Cx) (op:CmpOp) (a b:Expr) (t:TE):Prop :=
 ∀(pins:List (L6×Obj)) (s:L5) (σ:St) (H:Hp) (Q:VK),Inv X pins σ H s->t σ H Q ->
   wpAny 0x2 X.A (eval a X.env) (λv s₁=>wpAny 0x2 X.A (eval b X.env) (λu s₂=>wpAny 0x2 X.A (compareOp op v u) (EP X pins σ Q) X.xe s₂) X.xe s₁) X.xe s
def ul (b:Expr) (h:op≠.In) (h2:op≠.NotIn):behindInMarks op b=false:=by
 have e1:(op==CmpOp.In)=false:=by cases op <;> first|rfl|exact absurd rfl h
 have e2:(op==CmpOp.NotIn)=false:=by cases op <;> first|rfl|exact absurd rfl h2
 cases b <;> simp [behindInMarks,e1,e2]
abbrev EV (ta:TE):TE:=λσ H Q=>ta σ H λx H1=>Q (.bl (decide (x=.non))) H1
abbrev EZ (ta:TE):TE:=λσ H Q=>ta σ H λx H1=>Q (.bl (!decide (x=.non))) H1
def aX.none_iff {x:V} {v:K'} (r:aX x v):(v==Value.none)=decide (x=.non):=by
 cases x with
 | non=>cases r; rfl
 | bl _=>cases r; rfl
 | int _=>let#[t,rfl]:=r; rfl
 | str _=>let#[t,rfl]:=r; rfl
 | byt _=>let#[t,rfl]:=r; rfl
 | flt _=>let#[t,rfl]:=r; rfl
 | ref _=>cases r; rfl
 | ty _=>cases r; rfl
def i' {j pos'} (ha:PE X a ta):PC X .Is a (.Constant .none j pos') (EV ta):=by intro pins s σ H Q I h;refine aQ (ha pins s σ H _ I h) λv s1 z4_=>?_;let#[x,H1,I1,r1,q1]:=z4_;exact Constant_none (is_none_gen #[.bl _,H1,I1,by rw[r1.none_iff]; rfl,q1])
def i3 {j pos'} (ha:PE X a ta):PC X .IsNot a (.Constant .none j pos') (EZ ta):=by intro pins s σ H Q I h;refine aQ (ha pins s σ H _ I h) λv s1 z5_=>?_;let#[x,H1,I1,r1,q1]:=z5_;exact Constant_none (isnot_none_gen #[.bl _,H1,I1,by rw[r1.none_iff]; rfl,q1])
abbrev tB (t:TE):TT:=λσ H Q=>t σ H λx H1=>∃c,x=.bl c/\Q c H1
def vR {t:TE} (h:PC X op a b t) (h1:behindInMarks op b=false:=by first|exact ul _ #[] #[]|rfl):PE X (.Compare a [op] [b] pos) t:=λpins s σ H Q I hw=>wpAny_Compare1 (h pins s σ H Q I hw) h1
def eF {t:TE} (h:PC X op a b t) (h1:behindInMarks op b=false:=by first|exact ul _ #[] #[]|rfl):PT X (.Compare a [op] [b] pos) (tB t):=by intro pins s σ H Q I hw;refine KA (aQ (h pins s σ H _ I hw) λv s1 h1=>aQ h1 λu s2 h2=>aQ h2 λc s3 z6_=>?_) h1;let#[x,H1,I1,r1,q1]:=z6_;let#[d,rfl,q]:=q1;cases r1;exact JH #[H1,I1,q]
variable {tA tB':TT} {rest:List Expr}
abbrev AF (t u:TT):TT:=λσ H Q=>t σ H λc H1=>if c=true then u σ H1 Q else Q false H1
abbrev tOr (t u:TT):TT:=λσ H Q=>t σ H λc H1=>if c=true then Q true H1 else u σ H1 Q
abbrev F3 (t:TT):TT:=λσ H Q=>t σ H λc H1=>Q (!c) H1
def oH (ha:PT X a tA):PW X (.BoolOp .And [a] pos) tA:=by
 intro wh pins s σ H Q I h;refine isTrue_and (aQ (ha pins s σ H Q I h) λc s1 e=>?_);cases c with
 | true=>exact isTrue_and_nil e
 | false=>exact e
def eu (ha:PT X a tA):PW X (.BoolOp .Or [a] pos) tA:=by
 intro wh pins s σ H Q I h;refine isTrue_or (aQ (ha pins s σ H Q I h) λc s1 e=>?_);cases c with
 | false=>exact isTrue_or_nil e
 | true=>exact e
def mj (ha:PT X a tA) (hb:PW X (.BoolOp .And (b::rest) pos) tB'):PW X (.BoolOp .And (a::b::rest) pos) (AF tA tB'):=by
 intro wh pins s σ H Q I h;refine isTrue_and (aQ (ha pins s σ H _ I h) λc s1 z8_=>?_);let#[H1,I1,q1]:=z8_;cases c with
 | true=>exact hb wh pins s1 σ H1 Q I1 q1
 | false=>show#[H1,I1,q1]
def dF (ha:PT X a tA) (hb:PW X (.BoolOp .Or (b::rest) pos) tB'):PW X (.BoolOp .Or (a::b::rest) pos) (tOr tA tB'):=by
 intro wh pins s σ H Q I h;refine isTrue_or (aQ (ha pins s σ H _ I h) λc s1 z9_=>?_);let#[H1,I1,q1]:=z9_;cases c with
 | true=>show#[H1,I1,q1]
 | false=>exact hb wh pins s1 σ H1 Q I1 q1
def cT (ha:PT X a tA):PT X (.UnaryOp .Not a pos) (F3 tA):=by intro pins s σ H Q I h;exact isTrue_not (ha pins s σ H (λc H1=>Q (!c) H1) I h)
abbrev Fh (ta tb:TE):TE:=λσ H Q=>ta σ H λx H1=>∃c,x=.bl c/\if c=true then tb σ H1 Q else Q (.bl false) H1
abbrev BP (ta:TE):TE:=λσ H Q=>ta σ H λx H1=>∃c,x=.bl c/\Q (.bl (!c)) H1
def i7 {op} {t:TE} (h:PE X a t):PE X (.BoolOp op [a] pos) t:=λpins s σ H Q I hw=>BoolOp_one (h pins s σ H Q I hw)
def g7 (ha:PE X a ta) (hb:PE X (.BoolOp .And (b::rest) pos) tb):PE X (.BoolOp .And (a::b::rest) pos) (Fh ta tb):=by
 intro pins s σ H Q I h;refine BoolOp_and (aQ (ha pins s σ H _ I h) λv s1 z10_=>?_);let#[x,H1,I1,r1,q1]:=z10_;let#[c,rfl,q1]:=q1;cases r1;refine JH ?_;cases c with
 | true=>exact hb pins s1 σ H1 Q I1 q1
 | false=>show#[.bl false,H1,I1,rfl,q1]
def qN (ha:PE X a ta):PE X (.UnaryOp .Not a pos) (BP ta):=by intro pins s σ H Q I h;refine UnaryOp_ (aQ (ha pins s σ H _ I h) λv s1 z12_=>?_);let#[x,H1,I1,r1,q1]:=z12_;let#[c,rfl,q1]:=q1;cases r1;exact not_of (JH #[.bl (!c),H1,I1,rfl,q1])
abbrev tIf (t:TT) (ta tb:TE):TE:=λσ H Q=>t σ H λc H1=>if c=true then ta σ H1 Q else tb σ H1 Q
def gy {c:Expr} (hc:PT X c tA) (ha:PE X a ta) (hb:PE X b tb):PE X (.IfExp c a b pos) (tIf tA ta tb):=by
 intro pins s σ H Q I h;refine wpAny_IfExp (aQ (hc pins s σ H _ I h) λd s1 z13_=>?_);let#[H1,I1,q1]:=z13_;cases d with
 | true=>exact ha pins s1 σ H1 Q I1 q1
 | false=>exact hb pins s1 σ H1 Q I1 q1
end
abbrev aE (K:L7) (H:Hp) (a:L6) (xs:List V):Prop :=
 Rd H a (.lst xs) \/
   ∃(o:Obj) (its:Array K') (n:Nat),K.lookup a=⇑o/\o.cls=.type "list"/\o.dict=none/\o.data=.seq its n/\its.size<=sizeLine/\aU xs its.toList
abbrev aG (K:L7) (H:Hp) (a:L6) (xs:List V):Prop :=
 Rd H a (.tup xs) \/
   ∃(o:Obj) (its:Array K') (n:Nat),K.lookup a=⇑o/\o.cls=.type "tuple"/\o.data=.seq its n/\its.size<=sizeLine/\aU xs its.toList
abbrev GO:K'->Hl V
 | .none=>some .non
 | .bool b=>⇑(.bl b)
 | .int i _=>⇑(.int i)
 | .str x _=>⇑(.str x)
 | .bytes b _=>⇑(.byt b)
 | .float b _=>⇑(.flt b)
 | .ref a=>⇑↥a
 | .type n=>⇑(.ty n)
 | _=>none
def aX.abs {x:V} (r:aX x u):GO u=⇑x:=by
 cases x with
 | non=>cases r; rfl
 | bl _=>cases r; rfl
 | int _=>let#[t,rfl]:=r; rfl
 | str _=>let#[t,rfl]:=r; rfl
 | byt _=>let#[t,rfl]:=r; rfl
 | flt _=>let#[t,rfl]:=r; rfl
 | ref _=>cases r; rfl
 | ty _=>cases r; rfl
def aX.inj {x y:V} {u:K'} (r:aX x u) (q:aX y u):x=y:=Option.some.inj (r.abs.symm\q.abs)
def aU.inj:∀{xs ys:List V} {us:List K'},aU xs us->aU ys us->xs=ys:=by
 intro xs ys us h h'
 induction h generalizing ys with
 | nil=>cases h'; rfl
 | cons r t ih =>
   cases h' with
   | cons r' t'=>rw[r.inj r',ih t']
variable {K:L7}
section
variable {X:Cx} {pins:List (L6×Obj)} {σ:St} {H:Hp} {s:L5} {a:L6} {xs ys:List V}
def aE.of (h:H a=⇑(.lst xs)):aE K H a xs:=.inl (.inl h)
def aG.of (h:H a=⇑(.tup xs)):aG K H a xs:=.inl (.inl h)
def Inv.list (I:Inv X pins σ H s) (h:aE X.K H a xs):∃its:List K',aU xs its/\PlainL s.heap a its.toArray/\xs.length<=sizeLine:=by
 rcases h with h|⟨o,its,n,hk,hc,hd,hs,hz,r⟩
 . let#[z,its,n,r,e]:=h.ok I.hok;show#[its,r,#[_,n,e,15],z]
 . show#[its.toList,r,#[o,n,I.kIn a o hk,hc,hd,by simpa using hs],?_];have e:=r.length;simp only[KP] at e
   lia
def Inv.tuple (I:Inv X pins σ H s) (h:aG X.K H a xs):∃its:List K',aU xs its/\IsTup s.heap a its.toArray/\xs.length<=sizeLine:=by
 rcases h with h|⟨o,its,n,hk,hc,hs,hz,r⟩
 . let#[z,its,r,p]:=h.ok I.hok;show#[its,r,p,z]
 . show#[its.toList,r,#[o,I.kIn a o hk,hc,n,by simpa using hs],?_];have e:=r.length;simp only[KP] at e
   lia
def Inv.list_inj (I:Inv X pins σ H s) (h:aE X.K H a xs) (h':aE X.K H a ys):xs=ys:=by
 obtain⟨its,r,⟨o,n,e,_,_,d⟩,_⟩:=I.list h;obtain⟨its',r',⟨o',n',e',_,_,d'⟩,_⟩:=I.list h';rw[e] at e'; cases e';rw[d] at d';injection d' with d1 _
 have:its=its':=by simpa using Hr Array.toList d1
 subst this;exact r.inj r'
def Inv.tuple_inj (I:Inv X pins σ H s) (h:aG X.K H a xs) (h':aG X.K H a ys):xs=ys:=by
 obtain⟨its,r,⟨o,e,_,n,d⟩,_⟩:=I.tuple h;obtain⟨its',r',⟨o',e',_,n',d'⟩,_⟩:=I.tuple h';rw[e] at e'; cases e';rw[d] at d';injection d' with d1 _
 have:its=its':=by simpa using Hr Array.toList d1
 subst this;exact r.inj r'
end
noncomputable abbrev Cx.wish (X:Cx) (E:K'->L5->Prop):Cx:={ X with xe:=E }
noncomputable abbrev Cx.nox (X:Cx):Cx:=X.wish λ_ _=>False
variable {X:Cx}
def Cx.Ok.wish (ok:X.Ok) (E:K'->L5->Prop):(X.wish E).Ok :=
 #[ok.mod,ok.kind,ok.glob,ok.blt,ok.above,ok.inj,ok.has,ok.cab,ok.hd,ok.frames,ok.stk,ok.exf,ok.bs,ok.bsz,ok.noex,ok.exfs,ok.funs,ok.frf]
def Cx.Ok.unwish (ok:(X.wish E).Ok):X.Ok :=
 #[ok.mod,ok.kind,ok.glob,ok.blt,ok.above,ok.inj,ok.has,ok.cab,ok.hd,ok.frames,ok.stk,ok.exf,ok.bs,ok.bsz,ok.noex,ok.exfs,ok.funs,ok.frf]
section
variable {X:Cx} {pins:List (L6×Obj)} {σ:St} {H:Hp} {s:L5} {E:K'->L5->Prop}
def Inv.wish (I:Inv X pins σ H s) (E:K'->L5->Prop):Inv (X.wish E) pins σ H s:=#[I.ok.wish E,I.os,I.bare,I.base,I.loc,I.cell,I.free,I.freeC,I.pin,I.hok,I.len]
def Inv.unwish (I:Inv (X.wish E) pins σ H s):Inv X pins σ H s:=#[I.ok.unwish,I.os,I.bare,I.base,I.loc,I.cell,I.free,I.freeC,I.pin,I.hok,I.len]
def SP.unwish {D:bn} {f:Flow} {s':L5} (h:SP (X.wish E) pins D f s'):SP X pins D f s':=by
 cases f with
 | next=>let#[σ',H',I,q]:=h; show#[σ',H',I.unwish,q]
 | brk=>let#[σ',H',I,q]:=h; show#[σ',H',I.unwish,q]
 | cont=>let#[σ',H',I,q]:=h; show#[σ',H',I.unwish,q]
 | ret u=>let#[v,σ',H',I,r,q]:=h; show#[v,σ',H',I.unwish,r,q]
def aO.nox {st:List Stmt} {t:TS} (h:aO X.nox st t):aO X st t:=λpins s σ H D I hw =>
 Il (h pins s σ H D (I.wish _) hw) (λ_ _ q=>q.unwish) λ_ _ z=>False.elim z
end
section
variable {X:Cx} {st:Stmt} {rest:List Stmt} {t u:TS} {e:Expr} {te:TE} {pos:Pos}
abbrev Cu:TS:=λD σ H=>D.nx σ H
abbrev AB (t u:TS):TS:=λD σ H=>t { D with nx:=u D } σ H
def ac:aO X [] Cu:=λ_ _ σ H _ I h=>JO #[σ,H,I,h]
def aI (h1:PS X st t) (h2:aO X rest u):aO X (st::rest) (AB t u):=by
 intro pins s σ H D I h;refine Jb (aQ (h1 pins s σ H { D with nx:=u D } I h) λf s1 q=>?_);cases f with
 | next =>
   let#[σ',H',I',q]:=q;exact h2 pins s1 σ' H' D I' q
 | ret v=>exact q
 | brk=>exact q
 | cont=>exact q
def aK (h1:PS X st t):aO X [st] t:=by
 intro pins s σ H D I h;refine Jb (aQ (h1 pins s σ H D I h) λf s1 q=>?_);cases f with
 | next=>exact JO q
 | ret v=>exact q
 | brk=>exact q
 | cont=>exact q
def Inv.quiet (I:Inv X pins σ H s):interactive X.env=false:=by simp [interactive,I.ok.kind]
abbrev AJ (te:TE):TS:=λD σ H=>te σ H λ_ H1=>D.nx σ H1
def bS (he:PE X e te) (hs:swapsWith e none pos.line X.env=pure false:=by rfl):PS X (.Expr e pos) (AJ te):=by intro pins s σ H D I h;exact wpAny_Expr_any (aQ (he pins s σ H _ I h) λv s1 z16_=>by let#[x,H1,I1,r1,q1]:=z16_; show#[σ,H1,I1,q1]) I.quiet hs
abbrev Ce (te:TE):TS:=λD σ H=>te σ H D.rt
def aR (he:PE X e te):PS X (.Return ⇑e pos) (Ce te):=by intro pins s σ H D I h;exact wpAny_Return_some (aQ (he pins s σ H _ I h) λv s1 z17_=>by let#[x,H1,I1,r1,q1]:=z17_; show#[x,σ,H1,I1,r1,q1])
abbrev C8 (c:TT) (t u:TS):TS:=λD σ H=>c σ H λb H1=>if b=true then t D σ H1 else u D σ H1
def ae {c:Expr} {a b:List Stmt} {tc:TT} (hc:PT X c tc) (ha:aO X a t) (hb:aO X b u):PS X (.If c a b pos) (C8 tc t u):=by
 intro pins s σ H D I h;refine wpAny_If (aQ (hc pins s σ H _ I h) λd s1 z18_=>?_);let#[H1,I1,q1]:=z18_;cases d with
 | true=>exact ha pins s1 σ H1 D I1 q1
 | false=>exact hb pins s1 σ H1 D I1 q1
end
noncomputable abbrev TG:=V->St->Hp->(St->Hp->Prop)->Prop
noncomputable abbrev dz:=List V->St->Hp->(St->Hp->Prop)->Prop
abbrev PG (X:Cx) (target:Expr) (t:TG):Prop :=
 ∀(pins:List (L6×Obj)) (s:L5) (σ:St) (H:Hp) (v:V) (u:K') (Q:St->Hp->Prop),Inv X pins σ H s->aX v u->t v σ H Q ->
   wpAny 0x2 X.A (assign target X.env u) (λ_ s'=>∃σ' H',Inv X pins σ' H' s'/\Q σ' H') X.xe s
abbrev kU (X:Cx) (ts:List Expr) (t:dz):Prop :=
 ∀(pins:List (L6×Obj)) (s:L5) (σ:St) (H:Hp) (vs:List V) (us:List K') (Q:St->Hp->Prop),Inv X pins σ H s->aU vs us->t vs σ H Q ->
   wpAny 0x2 X.A (assignInOrder ((assignEach ts X.env).map (·.2)) us) (λ_ s'=>∃σ' H',Inv X pins σ' H' s'/\Q σ' H') X.xe s
noncomputable abbrev pO:=V->V->V->Hp->(Hp->Prop)->Prop
abbrev uh (X:Cx) (t:pO):Prop :=
 ∀(pins:List (L6×Obj)) (s:L5) (σ:St) (H:Hp) (o i v:V) (ov iv u:K') (Q:Hp->Prop),Inv X pins σ H s->aX o ov->aX i iv->aX v u->t o i v H Q ->
   wpAny 0x2 X.A (setItem ov iv u) (λ_ s'=>∃H',Inv X pins σ H' s'/\Q H') X.xe s
variable {tg:Expr} {te:TE} {g:TG}
section
variable {X:Cx} {pos:Pos}
abbrev fQ (i:Nat):TG:=λv σ H Q=>Q (σ.set i ⇑v) H
def aY (hN:X.N.Nodup) (hi:X.N[i]?=⇑x) (hx:jS X.env.scope x) (hf:X.fn x=true\/X.env.scope.names.lookup x=some .local:=by first|exact .inl rfl|exact .inr rfl|assumption):PG X (.Name x pos) (fQ i):=by intro pins s σ H v u Q I r h;exact wpAny_assign_Name (qg I hN hi hx r (λs' I'=>#[_,H,I',h]) hf)
abbrev u9:dz:=λvs σ H Q=>vs=[]/\Q σ H
abbrev vX (t:TG) (u:dz):dz:=λvs σ H Q=>∃v r,vs=v::r/\t v σ H λσ' H'=>u r σ' H' Q
def cV:kU X [] u9:=by intro pins s σ H vs us Q I r h;let#[e,h]:=h;subst e;cases r;exact assignInOrder_nil #[σ,H,I,h]
def bG {e:Expr} {es:List Expr} {t:TG} {u:dz} (h1:PG X e t) (h2:kU X es u)
   (hs:(assignEach (e::es) X.env).map (·.2)=assign e X.env::(assignEach es X.env).map (·.2):=by rfl):kU X (e::es) (vX t u):=by
 intro pins s σ H vs us Q I r h;let#[v,vr,e1,h]:=h;subst e1;cases r with
 | cons r rr =>
   rw[hs];refine assignInOrder_cons (aQ (h1 pins s σ H _ _ _ I r h) λ_ s1 z19_=>?_);let#[σ1,H1,I1,q1]:=z19_;exact h2 pins s1 σ1 H1 _ _ Q I1 rr q1
abbrev jt (K:L7) (n:Nat) (t:dz):TG:=λv σ H Q=>∃a xs,v=↥a/\aG K H a xs/\xs.length=n/\t xs σ H Q
def ck {es:List Expr} {k:Nat} {t:dz} {n:Nat} (hc:X.calm=true) (h:kU X es t)
   (hn:(assignEach es X.env).length=n:=by rfl) (hst:(assignEach es X.env).findIdx? (·.1)=none:=by rfl):PG X (.Tuple es k pos) (jt X.K n t):=by
 intro pins s σ H v u Q I r hw;let#[a,xs,e1,hq,hl,hw]:=hw;subst e1;cases r;let#[its,rv,ht,hz]:=I.tuple hq;refine assign_Tuple_tuple (I.ok.hd hc) ht (by simp [hn,<- hl,rv.length]) hst λh' hx=>?_;have I1:Inv X pins σ H { s with heap:=h' }:=I.kept (t':=s.toks) λb o e=>hx b o (IG (Hm e)) e;exact h pins _ σ H xs _ Q I1 ↑rv hw
abbrev FE (to ti:TE) (t:pO):TG:=λv σ H Q=>to σ H λo H1=>ti σ H1 λi H2=>t o i v H2 λH3=>Q σ H3
def j' {o i:Expr} {to ti:TE} {t:pO} (ho:PE X o to) (hi:PE X i ti) (hs:uh X t)
   (ha:∀v,assign (.Subscript o i pos) X.env v=(do
     let ov <- holding [v] (eval o X.env)
     let iv <- holding [v,ov] (eval i X.env)
     standAt pos
     holding [v,ov,iv] (setItem ov iv v)
     release [v,ov,iv] []):=by intro _; rfl):PG X (.Subscript o i pos) (FE to ti t):=by
 intro pins s σ H v u Q I r h;rw[ha];refine HR (IW (aQ (ho pins s σ H _ I h) λov s1 z20_=>?_));let#[x,H1,I1,r1,q1]:=z20_;refine HR (IW (aQ (hi pins s1 σ H1 _ I1 q1) λiv s2 z21_=>?_));let#[y,H2,I2,r2,q2]:=z21_;refine HR (Jr (HR (IW (aQ (hs pins s2 σ H2 x y v ov iv u _ I2 r1 r2 r q2) λ_ s3 z22_=>?_))));let#[H3,I3,q3]:=z22_;exact wpAny_release #[σ,H3,I3,q3]
abbrev mG (te:TE) (g:TG):TS:=λD σ H=>te σ H λx H1=>g x σ H1 D.nx
def gS {e:Expr}(he:PE X e te) (hg:PG X tg g) (hs:swapsWithSole [tg] e pos.line X.env=pure false:=by rfl) (hw:swappedStores [tg] e X.env=pure none:=by rfl)
   (h1:(assignEach [tg] X.env).map (·.2)=[assign tg X.env]:=by rfl):PS X (.Assign [tg] e pos) (mG te g):=by
 intro pins s σ H D I h;refine wpAny_Assign_stores (aQ (he pins s σ H _ I h) λv s1 z23_=>?_) hs hw;let#[x,H1,I1,r1,q1]:=z23_;rw[h1];exact aQ (hg pins s1 σ H1 x v _ I1 r1 q1) λ_ s2 q=>q
def Fi {e:Expr} {pos':Pos} (hN:X.N.Nodup) (hi:X.N[i]?=⇑x) (hx:jS X.env.scope x) (he:PE X e te) (hs:swapsWith e ⇑(.Name x pos') pos.line X.env=pure false:=by rfl) (hf:X.fn x=true\/X.env.scope.names.lookup x=some .local:=by first|exact .inl rfl|exact .inr rfl|assumption) :
   PS X (.Assign [.Name x pos'] e pos) (mG te (fQ i)):=by
 intro pins s σ H D I h;refine wpAny_Assign_Name (aQ (he pins s σ H _ I h) λv s1 z24_=>?_) hs;let#[y,H1,I1,r1,q1]:=z24_;exact qg I1 hN hi hx r1 (λs2 I2=>#[_,H1,I2,q1]) hf
end
structure It where
 go:Nat->Hp->Prop
 yld:Nat->Hp->V->Hp->Prop
 stop:Nat->Hp->Prop
abbrev dq (X:Cx) (pins:List (L6×Obj)) (H:Hp) (b:L6):Prop :=
 H b=none/\b≠X.env.locals/\b ∉ X.fs/\(b∈X.ex\/X.s₀.heap.objs.size<=b)/\(∀x c,X.env.cells.lookup x=⇑c->c≠b)/\∀p∈X.pn++pins,p.1≠b
def Inv.fpOk {H':Hp}{b:L6} (I:Inv X pins σ H s) (hb:s.heap.objs.size<=b) (hn:H' b=none):dq X pins H' b:=by
 show#[hn,JC (IB I.lt hb),I.nofs hb,.inr (Hu I.sz hb),λx c e z=>?_,λp hp z=>?_]
 . let#[v,q]:=I.cell x c e;exact absurd (IB q.lt (by rw[z]; exact hb)) (Ia _)
 . exact absurd (IB (Hm (I.pin p hp).1) (by rw[z]; exact hb)) (Ia _)
structure Turn (P:Program) (w:World) (K:W.Frag) (tg:Expr) (J:It) (fp:List Addr) (it:Addr) (tn:Nat->Heap->Prop):Prop where
 mem:it∈fp
 obj:∀i h,tn i h->∀b∈fp,∃o,h.get? b=⇑o/\∀v,o.data≠.cell v
 keep:∀i h h',tn i h->(∀b∈fp,∀o,h.get? b=⇑o->h'.get? b=⇑o)->tn i h'
 item:∀(X:Cx),X.prog=P->X.w=w->X.K=K->X.calm=true->∀(i:Nat) (pins:List (Addr×Obj)) (s:Shared) (σ:St) (H:Hp) (E:Value->Shared->Prop),Inv X pins σ H s->(∀b∈fp,dq X pins H b)->tn i s.heap->J.go i H ->
   wpAny (model P w) X.A (pyNext ↥it) (λr s1=>∃u,r=⇑u /\
     wpAny (model P w) X.A (letOwnedTupleGo tg ↥it u) (λ_ s2=>∃x H',Inv X pins σ H' s2/\aX x u/\J.yld i H x H'/\tn (i+1) s2.heap/\∀b∈fp,H' b=none) E s1) E s
 done:∀(X:Cx),X.prog=P->X.w=w->X.K=K->X.calm=true->∀(i:Nat) (pins:List (Addr×Obj)) (s:Shared) (σ:St) (H:Hp) (E:Value->Shared->Prop),Inv X pins σ H s->(∀b∈fp,dq X pins H b)->tn i s.heap->J.stop i H ->
   wpAny (model P w) X.A (pyNext ↥it) (λr s1=>r=none/\Inv X pins σ H s1) E s
 self:∀(A:Around) (i:Nat) (s:Shared) (Q:Value->Shared->Prop) (E:Value->Shared->Prop),tn i s.heap->Q ↥it s->wpAny (model P w) A (pyIter ↥it) Q E s
noncomputable abbrev TI:=St->Hp->(It->Hp->Prop)->Prop
abbrev PIE (X:Cx) (pins:List (L6×Obj)) (σ:St) (tg:Expr) (R:It->Hp->Prop) (itv:K') (s2:L5):Prop :=
 ∃(it:L6) (fp:List L6) (tn:Nat->Heap->Prop) (J:It) (H':Hp),itv=↥it/\Inv X pins σ H' s2/\Turn X.prog X.w X.K tg J fp it tn/\tn 0 s2.heap/\(∀b∈fp,dq X pins H' b)/\R J H'
abbrev PI (X:Cx) (tg iter:Expr) (wi:TI):Prop :=
 ∀(pins:List (L6×Obj)) (s:L5) (σ:St) (H:Hp) (R:It->Hp->Prop),Inv X pins σ H s->wi σ H R ->
   wpAny 0x2 X.A (eval iter X.env) (λv s1=>wpAny 0x2 X.A (pyIter v) (PIE X pins σ tg R) X.xe s1) X.xe s
def mx {A:Around} {it:L6} {o:Obj} {n:String} {vs:Array K'} {Q:Unit->L5->Prop} (ho:s.heap.get? it=⇑o) (hc:o.cls=.type n) (hd:o.data=.fields vs)
   (hn:["enumerate","zip","dict_itemiterator","dict_reverseitemiterator","odict_iterator","itertools.zip_longest","itertools.pairwise"].contains n=false) (hQ:Q () s):wpAny M A (letOwnedTupleGo tg ↥it u) Q E s:=by
 unfold letOwnedTupleGo;cases tg <;> first
   | exact Ha hQ
   | (cases u <;> first
       | exact Ha hQ
       | (refine HR (wpAny_load ho ?_)
          rw[hc,hd];show wpAny M A (if(["enumerate","zip","dict_itemiterator","dict_reverseitemiterator","odict_iterator","itertools.zip_longest","itertools.pairwise"].contains n&&vs[0]?==⇑(rawInt _))=true then _ else _) Q E s;rw[HX (by intro h; rw[hn,Bool.false_and] at h; cases h)];exact Ha hQ))
abbrev i9 (K:L7) (a:L6):It :=
 #[λi H=>∃xs x,aE K H a xs/\xs[i]?=⇑x,λi H x H'=>H'=H/\∀xs,aE K H a xs->xs[i]?=⇑x,λi H=>∃xs,aE K H a xs/\xs.length<=i]
abbrev iJ (K:L7) (a:L6):It :=
 #[λi H=>∃xs x,aG K H a xs/\xs[i]?=⇑x,λi H x H'=>H'=H/\∀xs,aG K H a xs->xs[i]?=⇑x,λi H=>∃xs,aG K H a xs/\xs.length<=i]
abbrev gO (lo:Int) (n:Nat):It:=#[λi _=>i<n,λi H x H'=>H'=H/\x=.int (lo+i),λi _=>n<=i]
def DU (a it:L6):Turn P w K tg (i9 K a) [it] it (λi h=>h.IsListIter it a i) where
 mem:=by simp
 obj:=λi h st b hb=>by
   have e:b=it:=↑hb
   subst e;let#[o,e,c,d]:=st;show#[o,e,λv z=>by rw[d] at z; cases z]
 keep:=λi h h' st k=>st.at λo e=>k it 0x6 o e
 item:=by intro X hP hw hK hc i pins s σ H E I hf st hg;subst hP hw hK;let#[xs,x,hq,hx]:=hg;let#[its,rv,p,hz]:=I.list hq;let#[u,hu,ru]:=rv.get hx;let#[f0,f1,f2,f3,f4,f5]:=hf it 0x6;refine K4 st p.isList (x:=u) ↑hu λh' st' sb=>?_;have I1:Inv X pins σ H { s with heap:=h' }:=I.turned (t':=s.toks) (λb o hb e=>(sb.2 b hb)\e) f0 f1 f3 f4 f5;let#[o,e,c,d]:=id st';show#[u,rfl,mx (s:={ s with heap:=h' }) e c d #[] #[x,H,I1,ru,#[rfl,λys hy=>by rw[I.list_inj hy hq]; exact hx],st',λb hb=>(hf b hb).1]]
 done:=by intro X hP hw hK hc i pins s σ H E I hf st hg;subst hP hw hK;let#[xs,hq,hx]:=hg;let#[its,rv,p,hz]:=I.list hq;let#[f0,f1,f2,f3,f4,f5]:=hf it 0x6;have hl:=rv.length;exact KB (I.ok.hd hc) st p.isList (by simp; lia) λh' eb=>#[rfl,I.turned (t':=s.toks) (λb o hb e=>eb b o hb e) f0 f1 f3 f4 f5]
 self:=λ_ _ _ _ _ st h=>wpAny_pyIter_listiter st h
def Cm (a it:L6):Turn P w K tg (iJ K a) [it] it (λi h=>h.IsTupleIter it a i) where
 mem:=by simp
 obj:=λi h st b hb=>by
   have e:b=it:=↑hb
   subst e;let#[o,e,c,d]:=st;show#[o,e,λv z=>by rw[d] at z; cases z]
 keep:=λi h h' st k=>st.at λo e=>k it 0x6 o e
 item:=by intro X hP hw hK hc i pins s σ H E I hf st hg;subst hP hw hK;let#[xs,x,hq,hx]:=hg;let#[its,rv,p,hz]:=I.tuple hq;let#[u,hu,ru]:=rv.get hx;let#[f0,f1,f2,f3,f4,f5]:=hf it 0x6;refine wpAny_pyNext_tuple_item st (show s.heap.IsTuple a its.toArray from p) (x:=u) ↑hu λh' st' sb=>?_;have I1:Inv X pins σ H { s with heap:=h' }:=I.turned (t':=s.toks) (λb o hb e=>(sb.2 b hb)\e) f0 f1 f3 f4 f5;let#[o,e,c,d]:=id st';show#[u,rfl,mx (s:={ s with heap:=h' }) e c d #[] #[x,H,I1,ru,#[rfl,λys hy=>by rw[I.tuple_inj hy hq]; exact hx],st',λb hb=>(hf b hb).1]]
 done:=by intro X hP hw hK hc i pins s σ H E I hf st hg;subst hP hw hK;let#[xs,hq,hx]:=hg;let#[its,rv,p,hz]:=I.tuple hq;let#[f0,f1,f2,f3,f4,f5]:=hf it 0x6;have hl:=rv.length;exact wpAny_pyNext_tuple_end (I.ok.hd hc) st (show s.heap.IsTuple a its.toArray from p) (by simp; lia) λh' eb=>#[rfl,I.turned (t':=s.toks) (λb o hb e=>eb b o hb e) f0 f1 f3 f4 f5]
 self:=λ_ _ _ _ _ st h=>wpAny_pyIter_tupleiter st h
def Ay (it:L6) (lo:Int) (n:Nat):Turn P w K tg (gO lo n) [it] it (λi h=>IsRangeIter h it (lo+(i:Nat) * 1) ((n:Int) - (i:Nat)) 1) where
 mem:=by simp
 obj:=λi h st b hb=>by
   have e:b=it:=↑hb
   subst e;show#[_,st,λv z=>by have z':Data.fields _=Data.cell v:=z;cases z']
 keep:=λi h h' st k=>k it 0x6 _ st
 item:=by intro X hP hw hK hc i pins s σ H E I hf st hg;subst hP hw hK;let#[f0,f1,f2,f3,f4,f5]:=hf it 0x6;have W:=Walks.range (prog:=X.prog) (w:=X.w) (I.ok.hd hc) it lo 1 n;refine W.item i s _ _ hg st λv h' tk hv st' kk=>?_;let#[t,rfl]:=hv;have I1:Inv X pins σ H { s with heap:=h',toks:=tk }:=I.turned (λb o hb e=>kk b o ↑hb e) f0 f1 f3 f4 f5;show#[5,mx (s:={ s with heap:=h',toks:=tk }) (n:="range_iterator") st' rfl rfl #[] #[.int (lo+i),H,I1,#[t,?_],#[7],st',λb hb=>(hf b hb).1]];rw[Int.mul_one]
 done:=by intro X hP hw hK hc i pins s σ H E I hf st hg;subst hP hw hK;let#[f0,f1,f2,f3,f4,f5]:=hf it 0x6;exact wpAny_pyNext_range_end (I.ok.hd hc) st (by have:n<=i:=hg; lia) λh' eb=>#[rfl,I.turned (t':=s.toks) (λb o hb e=>eb b o hb e) f0 f1 f3 f4 f5]
 self:=λ_ _ _ _ _ st h=>wpAny_pyIter_rangeiter st h
variable {tb:TS}
section
variable {X:Cx} {tg:Expr}
abbrev vT (K:L7) (tl:TE):TI:=λσ H R=>tl σ H λx H1=>∃a,x=↥a/\(∃xs,aE K H1 a xs)/\R (i9 K a) H1
abbrev Ck (K:L7) (tl:TE):TI:=λσ H R=>tl σ H λx H1=>∃a,x=↥a/\(∃xs,aG K H1 a xs)/\R (iJ K a) H1
def d6 {l:Expr} {tl:TE} (hl:PE X l tl):PI X tg l (vT X.K tl):=by
 intro pins s σ H R I h;refine aQ (hl pins s σ H _ I h) λv s1 z35_=>?_;let#[x,H1,I1,r1,q1]:=z35_;obtain⟨a,e,⟨xs,hq⟩,q⟩:=q1;subst e;cases r1;let#[its,rv,p,hz]:=I1.list hq;refine J0 p.isList ?_;show#[s1.heap.objs.size,[s1.heap.objs.size],4,H1,rfl,I1.kept (t':=s1.toks) λb o e=>HW _ e,DU a _,#[_,Hs _ rfl,7],λb hb=>?_,q];have e:b=s1.heap.objs.size:=↑hb
 subst e;exact I1.fpOk (HY _) (I1.hok.fresh (HY _))
def nu {l:Expr} {tl:TE} (hl:PE X l tl):PI X tg l (Ck X.K tl):=by
 intro pins s σ H R I h;refine aQ (hl pins s σ H _ I h) λv s1 z36_=>?_;let#[x,H1,I1,r1,q1]:=z36_;obtain⟨a,e,⟨xs,hq⟩,q⟩:=q1;subst e;cases r1;let#[its,rv,p,hz]:=I1.tuple hq;refine J7 (show s1.heap.IsTuple a its.toArray from p) ?_;show#[s1.heap.objs.size,[s1.heap.objs.size],4,H1,rfl,I1.kept (t':=s1.toks) λb o e=>HW _ e,Cm a _,#[_,Hs _ rfl,7],λb hb=>?_,q];have e:b=s1.heap.objs.size:=↑hb
 subst e;exact I1.fpOk (HY _) (I1.hok.fresh (HY _))
def zQ {R:It->Hp->Prop} {lo hi:Int} {t u v:Tok} {tk:Nat} (I:Inv X pins σ H s) (h1:-(2 ^ 62)<=lo) (h2:lo<2 ^ 62) (h3:-(2 ^ 62)<=hi) (h4:hi<2 ^ 62)
   (q:R (gO lo (hi - lo).toNat) H):wpAny 0x2 X.A (pyIter ↥s.heap.objs.size) (PIE X pins σ tg R) E { s with heap:=s.heap.push { cls:=.type "range",data:=.fields (List.toArray [.int lo t,.int hi u,.int 1 v]) },toks:=tk }:=by
 refine wpAny_pyIter_range (IsRange.new ..) (small_one h1 h2 h3 h4) ?_;have I1:Inv X pins σ H { s with heap:=s.heap.push { cls:=.type "range",data:=.fields (List.toArray [.int lo t,.int hi u,.int 1 v]) },toks:=tk }:=I.kept λb o e=>HW _ e;show#[(s.heap.push { cls:=.type "range",data:=.fields (List.toArray [.int lo t,.int hi u,.int 1 v]) }).objs.size,[(s.heap.push { cls:=.type "range",data:=.fields (List.toArray [.int lo t,.int hi u,.int 1 v]) }).objs.size],4,H,rfl,
   I1.kept (t':=tk) λb o e=>HW _ e,Ay _ lo (hi - lo).toNat,?_,λb hb=>?_,q]
 . have e1:lo+((0:Nat):Int) * 1=lo:=by simp
   have e2:(((hi - lo).toNat:Nat):Int) - ((0:Nat):Int)=Builtin.Range.rangeSize lo hi 1:=by rw[rangeSize_one]; split <;> lia
   show IsRangeIter _ _ (lo+((0:Nat):Int) * 1) ((((hi - lo).toNat:Nat):Int) - ((0:Nat):Int)) 1;rw[e1,e2];exact Hs _ rfl
 . have e:b=(s.heap.push { cls:=.type "range",data:=.fields (List.toArray [.int lo t,.int hi u,.int 1 v]) }).objs.size:=↑hb
   subst e;exact I1.fpOk (HY _) (I1.hok.fresh (HY _))
abbrev GG (ta:TA):TI:=λσ H R=>ta σ H λvs H1=>∃j:Int,vs=[.int j]/\-(2 ^ 62)<=j/\j<2 ^ 62/\R (gO 0 j.toNat) H1
def ci {a:Expr} {ta:TA} {p:Pos}(hg:Gl X "range") (hm:X.mg "range"=none) (ha:PA X [a] ta) (hs:starEach [a] X.env=[(false,eval a X.env)]:=by rfl):PI X tg (.Call (.Name "range" p) [a] [] pos) (GG ta):=by
 intro pins s σ H R I h;refine Call_ (fV I hg hm boot_range (Ie (aQ (ha pos pins s σ H _ I h) λus s1 z37_=>?_) hs rfl));let#[vs,H1,I1,r1,q1]:=z37_;let#[j,e,q1,q2,q]:=q1;subst e;cases r1 with
 | cons r rr =>
   cases rr;let#[t,rfl]:=r;exact call_range_1 (zQ I1 ∅ ∅ q1 q2 ↑q)
abbrev FJ (wi:TI) (g:TG) (tb:TS):TS:=λD σ H=>wi σ H λJ H1=>∃W:Nat->Nat->St->Hp->Prop,(∃m,W 0 m σ H1)/\∀i m σ H,W i m σ H ->
 (J.stop i H/\D.nx σ H)\/(J.go i H/\∃N:St->Hp->Prop,(∀σ' H',N σ' H'->∃m',m'<m/\W (i+1) m' σ' H')/\∀x H',J.yld i H x H'->g x σ H' λσ2 H2=>tb { D with nx:=N,ct:=N,bk:=D.nx } σ2 H2)
abbrev kP (fp:List L6) (h:Heap):List (L6×Obj):=fp.filterMap λb=>(h.get? b).map λo=>(b,o)
def mT {fp:List L6} {b:L6} {o:Obj} (hb:b∈fp) (e:h.get? b=⇑o):(b,o)∈kP fp h:=List.mem_filterMap.mpr #[b,hb,by rw[e]; rfl]
def BQ {fp:List L6} {p:L6×Obj} (hp:p∈kP fp h):p.1∈fp/\h.get? p.1=⇑p.2:=by
 let#[b,hb,e]:=List.mem_filterMap.mp hp;cases q:h.get? b with
 | none=>rw[q] at e; cases e
 | some o =>
   rw[q] at e;have e':(b,o)=p:=Option.some.inj e;subst e';show#[hb,q]
def Inv.pinned {fp:List L6} (I:Inv X pins σ H s) (hf:∀b∈fp,dq X pins H b) (ho:∀b∈fp,∃o,s.heap.get? b=⇑o/\∀v,o.data≠.cell v):Inv X (pins++kP fp s.heap) σ H s :=
 I.pins_of λp hp=>(IH.mp hp).elim (λz=>I.pin p (Hz _ z)) λz=>by let#[hb,e]:=BQ z;let#[f0,f1,f2,_]:=hf p.1 hb;let#[o,e',d]:=ho p.1 hb;rw[e] at e'; cases e';show#[e,f0,f1,f2,d]
def Inv.unpinned {pl:List (L6×Obj)}(I:Inv X (pins++pl) σ H s):Inv X pins σ H s:=I.pins_of λp hp=>I.pin p (Hz _ (Ik _ hp))
def bq {iter:Expr} {body:List Stmt} {wi:TI} (hp:PassesOwn 0x2 X.A X.env X.xe) (hc:X.calm=true) (hi:PI X tg iter wi) (hg:PG X tg g) (hb:aO X body tb)
   (hs:∀x,foldedSetIterable iter X.env x=pure x:=by intro _; rfl):PS X (.For tg iter body [] pos) (FJ wi g tb):=by
 intro pins s σ H D I h;refine wpAny_For (aQ (hi pins s σ H _ I h) λv s1 h1=>aQ h1 λitv s2 h2=>?_) hs;obtain⟨it,fp,tn,J,H2,e,I2,T,gj,f2,W,⟨m0,w0⟩,turn⟩:=h2;subst e
 -- what stays true of the iterator's objects through the loop
 have stat:∀{H':Hp},(∀b∈fp,H' b=none)->∀b∈fp,dq X pins H' b:=λhn b hb=>#[hn b hb,(f2 b hb).2]
 refine codeAny_forLoop_any (λn s'=>∃i σ' H',Inv X pins σ' H' s'/\tn i s'.heap/\(∀b∈fp,H' b=none)/\W i n σ' H') ?_ m0 #[(0),σ,H2,I2,gj,λb hb=>(f2 b hb).1,w0];rintro n s3 ⟨i,σ3,H3,I3,st3,fr3,w3⟩;rcases turn i n σ3 H3 w3 with⟨stop,qn⟩|⟨go,N,hN,step⟩
 . refine Js hp (aQ (T.done X rfl rfl rfl hc i pins s3 σ3 H3 X.xe I3 (stat fr3) st3 stop) λr s4 z39_=>?_);let#[hr,I4]:=z39_;subst hr;exact JO #[σ3,H3,I4,qn]
 . refine Js hp (aQ (T.item X rfl rfl rfl hc i pins s3 σ3 H3 X.xe I3 (stat fr3) st3 go) λr s4 z40_=>?_);let#[u,hr,h4]:=z40_;subst hr;refine Js hp (aQ h4 λ_ s5 z41_=>?_);let#[x,H5,I5,r5,y5,st5,fr5]:=z41_;have I5':=I5.pinned (stat fr5) (T.obj _ _ st5);refine Js hp (aQ (hg _ s5 σ3 H5 x u _ I5' r5 (step x H5 y5)) λ_ s6 z42_=>?_);let#[σ6,H6,I6,q6]:=z42_;refine Js hp (aQ (hb _ s6 σ6 H6 _ I6 q6) λf s7 q7=>?_);have again:∀{σ7:St} {H7:Hp},Inv X (pins++kP fp s5.heap) σ7 H7 s7->N σ7 H7->∃m,m<n/\∃i σ' H',Inv X pins σ' H' s7/\tn i s7.heap/\(∀b∈fp,H' b=none)/\W i m σ' H':=λ{σ7 H7} I7 n7=>by let#[m',hm,w7]:=hN σ7 H7 n7;show#[m',hm,i+1,σ7,H7,I7.unpinned,T.keep _ _ _ st5 λb hb o e=>(I7.pin (b,o) (Hz _ (Hz _ (mT hb e)))).1,λb hb=>?_,w7];let#[o,e,d]:=T.obj _ _ st5 b hb;exact(I7.pin (b,o) (Hz _ (Hz _ (mT hb e)))).2.1
   cases f with
   | next=>let#[σ7,H7,I7,n7]:=q7; exact again I7 n7
   | cont=>let#[σ7,H7,I7,n7]:=q7; exact again I7 n7
   | brk=>let#[σ7,H7,I7,q7]:=q7; show#[σ7,H7,I7.unpinned,q7]
   | ret v=>let#[x7,σ7,H7,I7,r7,q7]:=q7; show#[x7,σ7,H7,I7.unpinned,r7,q7]
end
def gB {xs:List V} {D:bn} (Pv:Nat->St->Hp->Prop) (h0:Pv 0 σ H) (hl:∀i σ H,i<=xs.length->Pv i σ H->aE K H a xs)
   (hs:∀i x σ H,xs[i]?=⇑x->Pv i σ H->g x σ H λσ2 H2=>tb { D with nx:=Pv (i+1),ct:=Pv (i+1),bk:=D.nx } σ2 H2) (hd:∀σ H,Pv xs.length σ H->D.nx σ H) :
   ∃W:Nat->Nat->St->Hp->Prop,(∃m,W 0 m σ H)/\∀i m σ H,W i m σ H ->
     ((i9 K a).stop i H/\D.nx σ H)\/((i9 K a).go i H/\∃N:St->Hp->Prop,(∀σ' H',N σ' H'->∃m',m'<m/\W (i+1) m' σ' H')/\∀x H',(i9 K a).yld i H x H'->g x σ H' λσ2 H2=>tb { D with nx:=N,ct:=N,bk:=D.nx } σ2 H2):=by
 show#[λi m σ H=>m=xs.length - i/\i<=xs.length/\Pv i σ H,#[xs.length,by simp,Hw _,h0],?_];rintro i m σ H ⟨rfl,hi,p⟩;have q:=hl i σ H hi p;by_cases hlt:i<xs.length
 . refine .inr #[#[xs,xs[i],q,by simp [hlt]],Pv (i+1),λσ' H' p'=>#[xs.length - (i+1),∅,rfl,hlt,p'],λx H' y=>?_];let#[e,y]:=y;subst e;exact hs i x σ _ (y xs q) p
 . have e:i=xs.length:=by lia
   subst e;exact .inl #[#[xs,q,HY _],hd σ H p]
def CG {xs:List V} {D:bn} (Pv:Nat->St->Hp->Prop) (h0:Pv 0 σ H) (hl:∀i σ H,i<=xs.length->Pv i σ H->aG K H a xs)
   (hs:∀i x σ H,xs[i]?=⇑x->Pv i σ H->g x σ H λσ2 H2=>tb { D with nx:=Pv (i+1),ct:=Pv (i+1),bk:=D.nx } σ2 H2) (hd:∀σ H,Pv xs.length σ H->D.nx σ H) :
   ∃W:Nat->Nat->St->Hp->Prop,(∃m,W 0 m σ H)/\∀i m σ H,W i m σ H ->
     ((iJ K a).stop i H/\D.nx σ H)\/((iJ K a).go i H/\∃N:St->Hp->Prop,(∀σ' H',N σ' H'->∃m',m'<m/\W (i+1) m' σ' H')/\∀x H',(iJ K a).yld i H x H'->g x σ H' λσ2 H2=>tb { D with nx:=N,ct:=N,bk:=D.nx } σ2 H2):=by
 show#[λi m σ H=>m=xs.length - i/\i<=xs.length/\Pv i σ H,#[xs.length,by simp,Hw _,h0],?_];rintro i m σ H ⟨rfl,hi,p⟩;have q:=hl i σ H hi p;by_cases hlt:i<xs.length
 . refine .inr #[#[xs,xs[i],q,by simp [hlt]],Pv (i+1),λσ' H' p'=>#[xs.length - (i+1),∅,rfl,hlt,p'],λx H' y=>?_];let#[e,y]:=y;subst e;exact hs i x σ _ (y xs q) p
 . have e:i=xs.length:=by lia
   subst e;exact .inl #[#[xs,q,HY _],hd σ H p]
def eR {lo:Int} {n:Nat} {D:bn} (Pv:Nat->St->Hp->Prop) (h0:Pv 0 σ H)
   (hs:∀i σ H,i<n->Pv i σ H->g (.int (lo+i)) σ H λσ2 H2=>tb { D with nx:=Pv (i+1),ct:=Pv (i+1),bk:=D.nx } σ2 H2) (hd:∀σ H,Pv n σ H->D.nx σ H) :
   ∃W:Nat->Nat->St->Hp->Prop,(∃m,W 0 m σ H)/\∀i m σ H,W i m σ H ->
     ((gO lo n).stop i H/\D.nx σ H)\/((gO lo n).go i H/\∃N:St->Hp->Prop,(∀σ' H',N σ' H'->∃m',m'<m/\W (i+1) m' σ' H')/\∀x H',(gO lo n).yld i H x H'->g x σ H' λσ2 H2=>tb { D with nx:=N,ct:=N,bk:=D.nx } σ2 H2):=by
 show#[λi m σ H=>m=n - i/\i<=n/\Pv i σ H,#[n,by simp,Hw _,h0],?_];rintro i m σ H ⟨rfl,hi,p⟩;by_cases hlt:i<n
 . refine .inr #[hlt,Pv (i+1),λσ' H' p'=>#[n - (i+1),∅,rfl,hlt,p'],λx H' y=>?_];let#[e,y]:=y;subst e y;exact hs i σ _ hlt p
 . have e:i=n:=by lia
   subst e;exact .inl #[HY _,hd σ H p]
noncomputable abbrev R2:=V->V->Hp->VK->Prop
abbrev bP (X:Cx) (f:K'->K'->Sem K') (r:R2):Prop :=
 ∀(pins:List (L6×Obj)) (s:L5) (σ:St) (H:Hp) (x y:V) (v u:K') (Q:VK),Inv X pins σ H s->aX x v->aX y u->r x y H Q ->
   wpAny 0x2 X.A (f v u) (EP X pins σ Q) X.xe s
abbrev qH (X:Cx) (f:K'->Sem K') (r:V->Hp->VK->Prop):Prop :=
 ∀(pins:List (L6×Obj)) (s:L5) (σ:St) (H:Hp) (x:V) (v:K') (Q:VK),Inv X pins σ H s->aX x v->r x H Q ->
   wpAny 0x2 X.A (f v) (EP X pins σ Q) X.xe s
abbrev ao (X:Cx) (f:K') (r:List V->Hp->VK->Prop):Prop :=
 ∀(pins:List (L6×Obj)) (s:L5) (σ:St) (H:Hp) (xs:List V) (us:List K') (Q:VK),Inv X pins σ H s->aU xs us->r xs H Q ->
   wpAny 0x2 X.A (call f us) (EP X pins σ Q) X.xe s
abbrev CV (X:Cx) (r:V->Hp->(Bool->Hp->Prop)->Prop):Prop :=
 ∀(pins:List (L6×Obj)) (s:L5) (σ:St) (H:Hp) (x:V) (v:K') (Q:Bool->Hp->Prop),Inv X pins σ H s->aX x v->r x H Q ->
   wpAny 0x2 X.A (truthy v) (TP X pins σ Q) X.xe s
abbrev gK (r:R2) (ta tb:TE):TE:=λσ H Q=>ta σ H λx H1=>tb σ H1 λy H2=>r x y H2 Q
abbrev tUn (r:V->Hp->VK->Prop) (ta:TE):TE:=λσ H Q=>ta σ H λx H1=>r x H1 Q
abbrev rI (C:Int->Int->Prop) (g:Int->Int->V):R2:=λx y H Q=>∃i j,x=.int i/\y=.int j/\C i j/\Q (g i j) H
abbrev fg (g:Int->Int->V):R2:=λx y H Q=>∃i j,x=.int i/\y=.int j/\Q (g i j) H
abbrev rU (g:Int->V):V->Hp->VK->Prop:=λx H Q=>∃i,x=.int i/\Q (g i) H
section
variable {X:Cx} {a b c:Expr} {ta tb tc:TE} {pos:Pos}
def qd (ha:PE X a ta) (hb:PE X b tb) {R:V->V->Hp->Prop} (I:Inv X pins σ H s)
   (h:ta σ H λx H1=>tb σ H1 λy H2=>R x y H2) {Q:K'->L5->Prop} {f:K'->K'->Sem K'}
   (hf:∀v u s2 x y H2,Inv X pins σ H2 s2->aX x v->aX y u->R x y H2->wpAny 0x2 X.A (f v u) Q X.xe s2) :
   wpAny 0x2 X.A (eval a X.env) (λv s₁=>wpAny 0x2 X.A (eval b X.env) (λu s₂=>wpAny 0x2 X.A (f v u) Q X.xe s₂) X.xe s₁) X.xe s:=by
 refine aQ (ha pins s σ H _ I h) λv s1 z44_=>?_;let#[x,H1,I1,r1,q1]:=z44_;refine aQ (hb pins s1 σ H1 _ I1 q1) λu s2 z45_=>?_;let#[y,H2,I2,r2,q2]:=z45_;exact hf v u s2 x y H2 I2 r1 r2 q2
def aL {op:Operator} {r:R2} (ho:bP X (binaryOp op) r) (ha:PE X a ta) (hb:PE X b tb):PE X (.BinOp a op b pos) (gK r ta tb):=by intro pins s σ H Q I h;exact wpAny_BinOp (qd ha hb I h λv u s2 x y H2 I2 rx ry q=>ho pins s2 σ H2 x y v u Q I2 rx ry q)
def eS {op:UnaryOp} {r:V->Hp->VK->Prop} (ho:qH X (unaryOp op) r) (ha:PE X a ta):PE X (.UnaryOp op a pos) (tUn r ta):=by intro pins s σ H Q I h;exact UnaryOp_ (aQ (ha pins s σ H _ I h) λv s1 z46_=>by let#[x,H1,I1,r1,q1]:=z46_; exact ho pins s1 σ H1 x v Q I1 r1 q1)
def kX {f:K'->K'->Sem K'} {C:Int->Int->Prop} {g:Int->Int->Int}
   (rule:∀(i j:Int) (t u:Tok) (s:L5) (Q:K'->L5->Prop) (E:K'->L5->Prop),C i j->Q (.int (g i j) s.toks) { s with toks:=s.toks+1 }->wpAny 0x2 X.A (f (.int i t) (.int j u)) Q E s) :
   bP X f (rI C λi j=>.int (g i j)):=by
 intro pins s σ H x y v u Q I rx ry h;let#[i,j,rfl,rfl,hc,q]:=h;let#[t,rfl]:=rx;let#[t',rfl]:=ry;exact rule i j t t' s _ _ hc #[.int (g i j),H,I.tok _,#[5],q]
def kx {f:K'->K'->Sem K'} {g:Int->Int->Int}
   (rule:∀(i j:Int) (t u:Tok) (s:L5) (Q:K'->L5->Prop) (E:K'->L5->Prop),Q (.int (g i j) s.toks) { s with toks:=s.toks+1 }->wpAny 0x2 X.A (f (.int i t) (.int j u)) Q E s) :
   bP X f (fg λi j=>.int (g i j)):=by
 intro pins s σ H x y v u Q I rx ry h;let#[i,j,rfl,rfl,q]:=h;let#[t,rfl]:=rx;let#[t',rfl]:=ry;exact rule i j t t' s _ _ #[.int (g i j),H,I.tok _,#[5],q]
def vy {f:K'->K'->Sem K'} {g:Int->Int->Bool}
   (rule:∀(i j:Int) (t u:Tok) (s:L5) (Q:K'->L5->Prop) (E:K'->L5->Prop),Q (.bool (g i j)) s->wpAny 0x2 X.A (f (.int i t) (.int j u)) Q E s) :
   bP X f (fg λi j=>.bl (g i j)):=by
 intro pins s σ H x y v u Q I rx ry h;let#[i,j,rfl,rfl,q]:=h;let#[t,rfl]:=rx;let#[t',rfl]:=ry;exact rule i j t t' s _ _ #[.bl (g i j),H,I,rfl,q]
abbrev As (i j:Int):Prop:=0<j/\j<1073741824
abbrev Eo (i j:Int):Prop:=0<=j/\j<=1000000/\i.natAbs<2 ^ 64
abbrev og (i j:Int):Prop:=(-(2 ^ 64)<i/\i<2 ^ 64)\/(-(2 ^ 64)<j/\j<2 ^ 64)
def og.ok {i j:Int} (h:og i j):IntMulOk i j:=by
 rcases h with⟨h1,h2⟩|⟨h1,h2⟩
 . exact .of_left (intBits_le_64 h1 h2)
 . exact .of_right (intBits_le_64 h1 h2)
def bU:bP X (binaryOp .Add) (fg λi j=>.int (i+j)):=kx λ_ _ _ _ _ _ _ q=>add_int q
def g9:bP X (binaryOp .Sub) (fg λi j=>.int (i - j)):=kx λ_ _ _ _ _ _ _ q=>sub_int q
def fX:bP X (binaryOp .Mult) (rI og λi j=>.int (i * j)):=kX λ_ _ _ _ _ _ _ hc q=>mul_int q hc.ok
def cG:bP X (binaryOp .FloorDiv) (rI As λi j=>.int (i / j)):=kX λi j _ _ _ _ _ hc q=>by have h1:(0:Int)<j:=hc.1;have h2:j<1073741824:=hc.2;exact floordiv_int ∅ (by rw[KZ i ∅]; exact q) (.inl (PyProof.noPylong_small ∅))
def bD:bP X (binaryOp .Mod) (rI (λ_ j=>0<j) λi j=>.int (i%j)):=kX λi j _ _ _ _ _ hc q=>by have h1:(0:Int)<j:=hc;exact mod_int' ∅ (by rw[Int.fmod_eq_emod_of_nonneg i ∅]; exact q)
def iw:bP X (binaryOp .Pow) (rI Eo λi j=>.int (i ^ j.toNat)):=kX λ_ _ _ _ _ _ _ hc q=>pow_int_small hc.1 hc.2.1 hc.2.2 q
def wm:bP X (binaryOp .BitAnd) (fg λi j=>.int (Builtin.bitAnd i j)):=kx λ_ _ _ _ _ _ _ q=>and_int q
def uJ:bP X (binaryOp .BitOr) (fg λi j=>.int (Builtin.bitOr i j)):=kx λ_ _ _ _ _ _ _ q=>or_int q
def wE:bP X (binaryOp .BitXor) (fg λi j=>.int (Builtin.bitXor i j)):=kx λ_ _ _ _ _ _ _ q=>xor_int q
def unI {f:K'->Sem K'} {g:Int->Int}
   (rule:∀(i:Int) (t:Tok) (s:L5) (Q:K'->L5->Prop) (E:K'->L5->Prop),Q (.int (g i) s.toks) { s with toks:=s.toks+1 }->wpAny 0x2 X.A (f (.int i t)) Q E s) :
   qH X f (rU λi=>.int (g i)):=by
 intro pins s σ H x v Q I rx h;let#[i,rfl,q]:=h;let#[t,rfl]:=rx;exact rule i t s _ _ #[.int (g i),H,I.tok _,#[5],q]
def fB:qH X (unaryOp .USub) (rU λi=>.int (-i)):=unI λ_ _ _ _ _ q=>neg_int q
end
abbrev su:V->V->Bool
 | .non,.non=>true | .non,.int _=>true | .int _,.non=>true | .non,.bl _=>true | .bl _,.non=>true | .non,.str _=>true | .str _,.non=>true
 | .int _,.int _=>true | .bl _,.bl _=>true | .str _,.str _=>true | .byt _,.byt _=>true
 | .int _,.str _=>true | .str _,.int _=>true | .bl _,.str _=>true | .str _,.bl _=>true
 | _,_=>false
abbrev rEq:R2:=λx y H Q=>su x y=true/\Q (.bl (decide (x=y))) H
abbrev rNe:R2:=λx y H Q=>su x y=true/\Q (.bl (!decide (x=y))) H
def uc {i j:Int}:decide (V.int i=V.int j)=(i==j):=by rw[JD];simp
def wD {i j:Bool}:decide (V.bl i=V.bl j)=(i==j):=by rw[JD];simp
def ua {i j:Str}:decide (V.str i=V.str j)=(i==j):=by rw[JD];simp
def tZ {i j:Array UInt8}:decide (V.byt i=V.byt j)=(i.toList==j.toList):=by rw[JD];cases i;cases j;simp
section
variable {X:Cx} {a b c:Expr} {ta tb tc:TE} {pos:Pos}
def bZ {Q:VK} {k k':Bool} (I:Inv X pins σ H s) (q:Q (.bl k) H) (e:k=k'):EP X pins σ Q (.bool k') s:=by subst e;show#[.bl k,H,I,rfl,q]
def ay:bP X (compareOp .Eq) rEq:=by
 intro pins s σ H x y v u Q I rx ry h;let#[hs,q]:=h;cases x with
 | non =>
   cases rx;cases y with
   | non=>cases ry; exact PySem.EqNone.eq_none_none (bZ I q 0x6)
   | bl j=>cases ry; exact PySem.EqNone.eq_none_bool (bZ I q 0x6)
   | int j=>let#[t',rfl]:=ry; exact PySem.EqNone.eq_none_int (bZ I q 0x6)
   | str j=>let#[t',rfl]:=ry; exact PySem.EqNone.eq_none_str (bZ I q 0x6)
   | _=>exact absurd (show false=true from hs) Ho
 | bl i =>
   cases rx;cases y with
   | non=>cases ry; exact PySem.EqNone.eq_bool_none (bZ I q 0x6)
   | bl j=>cases ry; exact eq_bool (bZ I q wD)
   | str j=>let#[t',rfl]:=ry; exact PySem.EqMixed.eq_bool_str (bZ I q 0x6)
   | _=>exact absurd (show false=true from hs) Ho
 | int i =>
   let#[t,rfl]:=rx;cases y with
   | non=>cases ry; exact PySem.EqNone.eq_int_none (bZ I q 0x6)
   | int j=>let#[t',rfl]:=ry; exact eq_int (bZ I q uc)
   | str j=>let#[t',rfl]:=ry; exact PySem.EqMixed.eq_int_str (bZ I q 0x6)
   | _=>exact absurd (show false=true from hs) Ho
 | str i =>
   let#[t,rfl]:=rx;cases y with
   | non=>cases ry; exact PySem.EqNone.eq_str_none (bZ I q 0x6)
   | bl j=>cases ry; exact PySem.EqMixed.eq_str_bool (bZ I q 0x6)
   | int j=>let#[t',rfl]:=ry; exact PySem.EqMixed.eq_str_int (bZ I q 0x6)
   | str j=>let#[t',rfl]:=ry; exact eq_str (bZ I q ua)
   | _=>exact absurd (show false=true from hs) Ho
 | byt i =>
   let#[t,rfl]:=rx;cases y with
   | byt j=>let#[t',rfl]:=ry; exact PySem.W.eq_bytes (bZ I q tZ)
   | _=>exact absurd (show false=true from hs) Ho
 | _=>cases y <;> exact absurd (show false=true from hs) Ho
def jN:bP X (compareOp .NotEq) rNe:=by
 intro pins s σ H x y v u Q I rx ry h;let#[hs,q]:=h;cases x with
 | non =>
   cases rx;cases y with
   | non=>cases ry; exact PySem.EqNone.ne_none_none (bZ I q 0x6)
   | bl j=>cases ry; exact PySem.EqNone.ne_none_bool (bZ I q 0x6)
   | int j=>let#[t',rfl]:=ry; exact PySem.EqNone.ne_none_int (bZ I q 0x6)
   | str j=>let#[t',rfl]:=ry; exact PySem.EqNone.ne_none_str (bZ I q 0x6)
   | _=>exact absurd (show false=true from hs) Ho
 | bl i =>
   cases rx;cases y with
   | non=>cases ry; exact PySem.EqNone.ne_bool_none (bZ I q 0x6)
   | bl j=>cases ry; exact ne_bool (bZ I q (Hr not wD))
   | str j=>let#[t',rfl]:=ry; exact PySem.EqMixed.ne_bool_str (bZ I q 0x6)
   | _=>exact absurd (show false=true from hs) Ho
 | int i =>
   let#[t,rfl]:=rx;cases y with
   | non=>cases ry; exact PySem.EqNone.ne_int_none (bZ I q 0x6)
   | int j=>let#[t',rfl]:=ry; exact ne_int (bZ I q (Hr not uc))
   | str j=>let#[t',rfl]:=ry; exact PySem.EqMixed.ne_int_str (bZ I q 0x6)
   | _=>exact absurd (show false=true from hs) Ho
 | str i =>
   let#[t,rfl]:=rx;cases y with
   | non=>cases ry; exact PySem.EqNone.ne_str_none (bZ I q 0x6)
   | bl j=>cases ry; exact PySem.EqMixed.ne_str_bool (bZ I q 0x6)
   | int j=>let#[t',rfl]:=ry; exact PySem.EqMixed.ne_str_int (bZ I q 0x6)
   | str j=>let#[t',rfl]:=ry; exact ne_str (bZ I q (Hr not ua))
   | _=>exact absurd (show false=true from hs) Ho
 | byt i =>
   let#[t,rfl]:=rx;cases y with
   | byt j=>let#[t',rfl]:=ry; exact PySem.W.ne_bytes (bZ I q (Hr not tZ))
   | _=>exact absurd (show false=true from hs) Ho
 | _=>cases y <;> exact absurd (show false=true from hs) Ho
def jD:bP X (compareOp .Lt) (fg λi j=>.bl (decide (i<j))):=vy λ_ _ _ _ _ _ _ q=>lt_int q
def GZ:bP X (compareOp .Gt) (fg λi j=>.bl (decide (j<i))):=vy λ_ _ _ _ _ _ _ q=>gt_int q
def af (b:Expr) (h:op≠.In:=by decide) (h2:op≠.NotIn:=by decide):behindInMarks op b=false:=by
 have e1:(op==CmpOp.In)=false:=by cases op <;> first|rfl|exact absurd rfl h
 have e2:(op==CmpOp.NotIn)=false:=by cases op <;> first|rfl|exact absurd rfl h2
 cases b <;> simp [behindInMarks,e1,e2]
def gR {r:R2} (ho:bP X (compareOp op) r) (ha:PE X a ta) (hb:PE X b tb) (hm:behindInMarks op b=false):PE X (.Compare a [op] [b] pos) (gK r ta tb):=by intro pins s σ H Q I h;exact wpAny_Compare1 (qd ha hb I h λv u s2 x y H2 I2 rx ry q=>ho pins s2 σ H2 x y v u Q I2 rx ry q) hm
abbrev zT (t:TE):TT:=λσ H Q=>t σ H λx H'=>∃k,x=.bl k/\Q k H'
def ik {r:R2} (ho:bP X (compareOp op) r) (ha:PE X a ta) (hb:PE X b tb) (hm:behindInMarks op b=false):PT X (.Compare a [op] [b] pos) (zT (gK r ta tb)):=by
 intro pins s σ H Q I h;refine KA (aQ (ha pins s σ H _ I h) λv s1 ⟨x,H1,I1,r1,q1⟩=>aQ (hb pins s1 σ H1 _ I1 q1) λu s2 ⟨y,H2,I2,r2,q2⟩ =>
   aQ (ho pins s2 σ H2 x y v u _ I2 r1 r2 q2) λc s3 ⟨z,H3,I3,r3,k,e,q3⟩=>?_) hm
 subst e;cases r3;exact JH #[H3,I3,q3]
abbrev pQ (K:L7) (x:V) (H:Hp) (k:Bool):Prop :=
 match x with
 | .non=>k=false
 | .bl b=>k=b
 | .int i=>k=(i != 0)
 | .str y=>y.length<=sizeLine/\k=((y.length:Int) != 0)
 | .byt y=>y.size<=sizeLine/\k=((y.size:Int) != 0)
 | .ref p=>(∃xs,aE K H p xs/\k=!xs.isEmpty)\/(∃xs,aG K H p xs/\k=!xs.isEmpty)\/∃kvs,H p=⇑(.dK kvs)/\k=!kvs.isEmpty
 | _=>False
def FD {κ:Type} {kvs:List (κ×V)} {vs:List (κ×K')} (r:KV kvs vs):(!vs.isEmpty)=!kvs.isEmpty:=by cases r <;> rfl
def uv {xs:List V} {its:List K'} (r:aU xs its):(!its.toArray.isEmpty)=!xs.isEmpty:=by cases r <;> simp
def j9:(sizeLine:Nat)<2 ^ 63:=by rw[sizeLine_eq]; decide
def Eg:CV X (λx H Q=>∃k,pQ X.K x H k/\Q k H):=by
 intro pins s σ H x v Q I rx h;let#[k,e,q]:=h;have hl:=j9;have hs:sizeLine=16777216:=sizeLine_eq;cases x with
 | non =>
   cases rx;have e':k=false:=e;subst e';exact truthy_none #[H,I,q]
 | bl b =>
   cases rx;have e':k=b:=e;subst e';exact JH #[H,I,q]
 | int i =>
   let#[t,rfl]:=rx;have e':k=(i != 0):=e;subst e';exact PySem.P.truthy_int #[H,I,q]
 | str y =>
   let#[t,rfl]:=rx;obtain⟨hy,e'⟩:y.length<=sizeLine/\k=((y.length:Int) != 0):=e;subst e';exact PySem.P.truthy_str ∅ #[H,I.tok _,q]
 | byt y =>
   let#[t,rfl]:=rx;obtain⟨hy,e'⟩:y.size<=sizeLine/\k=((y.size:Int) != 0):=e;subst e';exact PySem.W.truthy_bytes ∅ #[H,I.tok _,q]
 | ref p =>
   cases rx;have e':(∃xs,aE X.K H p xs/\k=!xs.isEmpty)\/(∃xs,aG X.K H p xs/\k=!xs.isEmpty)\/∃kvs,H p=⇑(.dK kvs)/\k=!kvs.isEmpty:=e;rcases e' with⟨xs,hx,e'⟩|⟨xs,hx,e'⟩|⟨kvs,hx,e'⟩
   . subst e';let#[its,r,pl,hz]:=I.list hx;have hlen:=r.length;exact wpAny_truthy_list pl.isList (by simp only[Hn]; lia) #[H,I.tok _,by rw[uv r]; exact q]
   . subst e';let#[its,r,pl,hz]:=I.tuple hx;have hlen:=r.length;exact truthy_tuple pl (by simp only[Hn]; lia) #[H,I.tok _,by rw[uv r]; exact q]
   . subst e';obtain⟨hz,hS,vs,r,m⟩:kvs.length<=sizeLine/\(p==sysModules)=false/\∃vs,KV kvs vs/\s.heap.DictOf (br X.prog X.w) p vs:=I.hok p _ hx;have hlen:kvs.length=vs.length:=Paired.length r;exact wpAny_truthy_dict hS m ∅ #[H,I.tok _,by rw[FD r]; exact q]
 | _=>exact(show False from e).elim
def Em (ha:PE X a ta) (he:∀whole,isTrue a X.env whole=(do let v <- whole; standAt a.pos; holding [v] (truthy v))) :
   PT X a (λσ H Q=>ta σ H λx H'=>∃k,pQ X.K x H' k/\Q k H'):=by
 intro pins s σ H Q I h;exact isTrue_plain (aQ (ha pins s σ H _ I h) λv s1 z59_=>by let#[x,H1,I1,r1,q1]:=z59_; exact Eg pins s1 σ H1 x v Q I1 r1 q1) (he _)
def nr:bP X (binaryOp .Add) (λx y H Q=>∃i j,x=.str i/\y=.str j/\i.length+j.length<=sizeLine/\Q (.str (i++j)) H):=by intro pins s σ H x y v u Q I rx ry h;let#[i,j,rfl,rfl,hz,q]:=h;let#[t,rfl]:=rx;let#[t',rfl]:=ry;exact add_str (λt' tk=>#[.str (i++j),H,I.tok _,#[5],q]) hz
def gP {x:V} (r:aU [x] us):∃u,us=[u]/\aX x u:=by
 cases r with
 | cons r1 r2=>cases r2; show#[5,r1]
def oW {x y:V} (r:aU [x,y] us):∃u w',us=[u,w']/\aX x u/\aX y w':=by
 cases r with
 | cons r1 r2 =>
   cases r2 with
   | cons r3 r4=>cases r4; show#[9,r1,r3]
def qK:ao X (.type "int") (λxs H Q=>(∃i,xs=[.int i]/\Q (.int i) H)\/∃k,xs=[.bl k]/\Q (.int (if k then 1 else 0)) H):=by
 intro pins s σ H xs us Q I r h;rcases h with⟨i,rfl,q⟩|⟨k,rfl,q⟩
 . let#[u,rfl,t,rfl]:=gP r;exact call_int_int #[.int i,H,I,#[5],q]
 . let#[u,rfl,r1]:=gP r;cases r1;exact call_int_bool #[.int (if k then 1 else 0),H,I.tok _,#[5],q]
end
structure ObjM (h:Heap) (x dx C:Addr) (mA:Str->Option Value):Prop where
 obj:h.get? x=⇑(PySem.W.instObj C dx)
 ns:h.Ns1 dx mA
 ne:dx≠x
def G8 {dx:L6} {mA:Str->Hl K'} (n:h.Ns1 dx mA):∃od,h.get? dx=⇑od/\∀name,PySem.W.lookIn name od=⇑(mA name):=by
 let#[o,es,ep,ho,hd,hk,_,hm]:=n;show#[o,ho,λname=>?_];have e:=hm name;unfold nsFind findBy at e;rw[<- Array.find?_toList] at e;unfold PySem.W.lookIn;rw[hd];dsimp only;split
 . rename_i y q
   rw[q] at e;exact Hr some e
 . rename_i q
   rw[q] at e;have a:es.toList.any (·.refKey)=false:=by rw[List.any_eq_false];intro y hy;let#[z,t,hkey]:=hk y (Array.mem_toList_iff.mp hy);simp [DictEntry.refKey,hkey]
   have a':¬ es.toList.any (·.refKey)=true:=by rw[a]; exact Ho
   rw[HX a'];exact Hr some e
variable {C:L6}
def ObjM.look {x dx:L6}{mA:Str->Hl K'} (I:ObjM h x dx C mA):∃od,PySem.W.InstAt h x (PySem.W.instObj C dx) C ⇑od/\∀name,PySem.W.lookIn name od=⇑(mA name) :=
 let ⟨od,ho,hl⟩:=G8 I.ns
 #[od,#[I.obj,7,ho],hl]
variable {pl:Sem Bool}
section
variable {prog:Program} {w:World} {A:Around} {E:K'->L5->Prop} {s:L5} {K:L7} {x dx C f:L6} {mA:Str->Hl K'} {name:Str} {v:K'}
def Ba {expr:Bool} {Q:K'->L5->Prop} (X:K.In s.heap) (I:ObjM s.heap x dx C mA) (hg:PySem.W.plainGet K C name=true) (hh:PySem.W.hasDictIn K C=true)
   (ha:PySem.W.findIn K ↥C name=⇑none) (hv:mA name=⇑v) (hv':PySem.W.handedIn v=true) (h:Q v { s with toks:=s.toks+1 }) :
   wpAny 0x3 A (getAttr ↥x name expr) Q E s:=by
 let#[od,J,hl]:=I.look;exact PySem.W.get_value X J (PySem.W.plainGet_of hg).1 (PySem.W.findObj_own hh ha rfl (by rw[hl,hv])) hv' h
def Ea {Q:K'×List K'->L5->Prop} (X:K.In s.heap) (I:ObjM s.heap x dx C mA) (hg:PySem.W.plainGet K C name=true)
   (hf:PySem.W.findIn K ↥C name=⇑⇑↥f) (ht:PySem.W.isFn K ↥f=true) (hv:mA name=none) (h:Q (↥f,[↥x]) s) :
   wpAny 0x3 A (getMethod ↥x name pl) Q E s:=by
 let#[od,J,hl]:=I.look;exact PySem.W.method_fn X J (PySem.W.plainGet_of hg).1 (PySem.W.plainGet_of hg).2 hf (beq_iff_eq.mp ht) (by show(PySem.W.lookIn name od).map (·.isSome)=⇑false; rw[hl,hv]; rfl) h
def AY {ns:List Str} {Q:Unit->L5->Prop} (X:K.In s.heap) (I:ObjM s.heap x dx C mA)
   (hs:PySem.W.findIn K ↥C "__setattr__"=⇑⇑(.builtin "object.__setattr__")) (hp:PySem.W.plainOver K C=true) (ht:PySem.W.takerIn K C name=⇑none) (hh:PySem.W.hasDictIn K C=true)
   (hw:PySem.Within mA ns) (hsz:ns.length<=sizeLine)
   (h:∀h',ObjM h' x dx C (λy=>if y=name then ⇑v else mA y)->Heap.SameBut dx s.heap h'->Q () { s with heap:=h',toks:=s.toks+2 }) :
   wpAny 0x3 A (setAttr ↥x name v) Q E s:=by
 let#[od,J,hl]:=I.look;refine PySem.W.set_plain X J hs (PySem.W.osa_open (s:={ s with toks:=s.toks+1 }) (r:=none) X J hp ht λb=>?_);let#[cd,hc,hd']:=PySem.W.any_some hh;have hx:s.heap.get? x=some ⟨↥C,⇑dx,.plain,0xA⟩:=I.obj;refine HR (Ha (HR (HR (Kv hx (HR (PySem.W.Looks.here (s:={ s with toks:=s.toks+1 }) (PySem.W.looks_clsIn X hc) ?_))))));rw[hd'];refine Ha (a:=⇑dx) (HR (Ha (HR ?_)));refine wpAny_nsSet1 (s:={ s with toks:=s.toks+1 }) I.ns λh' hn2 hs2=>?_;let#[oD,esD,epD,hoD,hdD,hcD]:=hn2.count (PySem.Within.cons name v hw);refine HR (wpAny_lookBehind hoD (by rw[hdD]; exact pastItsLine_dict (Hu hcD (by rw[II]; lia))) ?_);exact Ha (h _ #[(hs2.2 _ (Ne.symm I.ne))\I.obj,hn2,I.ne] hs2)
def Cz {R:Result->L5->Prop} {vs:List K'} {kw:List (Str×K')} (X:K.In s.heap) (hm:PySem.W.makesIn K C=true)
   (hi:PySem.W.findIn K ↥C "__init__"=⇑⇑↥f) (hf:PySem.W.typeIn K ↥f=⇑(.type "function"))
   (h:codeAny 0x3 (A.under (.builtin "type.__call__" #[↥C::vs,kw])) (.call ↥f #[↥(s.heap.objs.size+1)::vs,kw]) (PySem.W.InitBack (s.heap.objs.size+1) R)
     { s with heap:=(s.heap.push PySem.W.emptyDict).push (PySem.W.instObj C s.heap.objs.size) }) :
   codeAny 0x3 A (.call ↥C #[vs,kw]) R s:=by
 let#[hh,g,d,t,os]:=s;exact PySem.W.make_core (PySem.W.makes_of X hm) (PySem.W.looks_findIn X hi) (λself=>PySem.W.bind_fn X self hf) (.inl rfl) h
end
abbrev bO (f:Str) (v:V):List (Str×V)->List (Str×V)
 | []=>[(f,v)]
 | (g,x)::r=>if g=f then(g,v)::r else(g,x)::bO f v r
def bo (f g:Str) (v:V):∀fs:List (Str×V),(bO f v fs).lookup g=if g=f then ⇑v else fs.lookup g
 | []=>by
   show List.lookup g [(f,v)]=_;by_cases h:g=f
   . have hb:(g==f)=true:=beq_iff_eq.mpr h;simp only[List.lookup,hb,He h]
   . have hb:(g==f)=false:=beq_eq_false_iff_ne.mpr h;simp only[List.lookup,hb,HX h]
 | (k,x)::r=>by
   have ih:=bo f g v r;rw[show bO f v ((k,x)::r)=(if k=f then(k,v)::r else(k,x)::bO f v r) from rfl];by_cases hk:k=f
   . rw[He hk];by_cases h:g=k
     . have hb:(g==k)=true:=beq_iff_eq.mpr h;simp only[List.lookup,hb,He (h\hk)]
     . have hb:(g==k)=false:=beq_eq_false_iff_ne.mpr h;simp only[List.lookup,hb,HX (λe:g=f=>h (e\hk.symm))]
   . rw[HX hk];by_cases h:g=k
     . have hb:(g==k)=true:=beq_iff_eq.mpr h;simp only[List.lookup,hb,HX (λe:g=f=>hk (h.symm\e))]
     . have hb:(g==k)=false:=beq_eq_false_iff_ne.mpr h;simp only[List.lookup,hb];exact ih
def qk (f:Str) (v:V):∀fs:List (Str×V),f∈(bO f v fs).map (·.1)/\∀g,g∈fs.map (·.1)->g∈(bO f v fs).map (·.1)
 | []=>#[by simp [bO],λg h=>by simp at h]
 | (k,x)::r=>by
   let#[i1,i2]:=qk f v r;rw[show bO f v ((k,x)::r)=(if k=f then(k,v)::r else(k,x)::bO f v r) from rfl];by_cases hk:k=f
   . rw[He hk];subst hk;show#[by simp,λg h=>by simpa using h]
   . rw[HX hk];show#[?_,λg h=>?_]
     . rw[IF];exact Hv _ i1
     . rw[IF] at h ⊢;rcases Hh.mp h with e|e
       . exact Hh.mpr (.inl e)
       . exact Hv _ (i2 g e)
def mQ (f:Str) (v:V):∀fs:List (Str×V),(bO f v fs).length<=fs.length+1
 | []=>by simp [bO]
 | (k,x)::r=>by
   have ih:=mQ f v r;rw[show bO f v ((k,x)::r)=(if k=f then(k,v)::r else(k,x)::bO f v r) from rfl];by_cases hk:k=f
   . rw[He hk,II,II]; lia
   . rw[HX hk,II,II]; lia
def d7.some_of {o:Hl K'} (r:d7 ⇑v o):∃u,o=⇑u/\aX v u:=by
 cases o with
 | none=>exact(show False from r).elim
 | some u=>show#[u,rfl,r]
def d7.none_of {o:Hl K'} (r:d7 none o):o=none:=by
 cases o with
 | none=>rfl
 | some u=>exact(show False from r).elim
def BF (r:aX v u):PySem.W.handedIn u=true:=by
 cases v with
 | non=>cases (show u=Value.none from r); rfl
 | bl b=>cases (show u=Value.bool b from r); rfl
 | int i=>let#[t,e]:=(show ∃t,u=Value.int i t from r); cases e; rfl
 | str x=>let#[t,e]:=(show ∃t,u=Value.str x t from r); cases e; rfl
 | byt b=>let#[t,e]:=(show ∃t,u=Value.bytes b t from r); cases e; rfl
 | flt b=>let#[t,e]:=(show ∃t,u=Value.float b t from r); cases e; rfl
 | ref a=>cases (show u=Value.ref a from r); rfl
 | ty n=>cases (show u=Value.type n from r); rfl
section
variable {P:Program} {w:World} {H H':Hp} {h h':Heap} {a C dx:L6} {fs fs':List (Str×V)}
def mh (hok:az P w H h) (e:H a=⇑(.ins C dx fs)):∃mA,ObjM h a dx C mA/\(∀f,d7 (fs.lookup f) (mA f))/\PySem.Within mA (fs.map (·.1))/\fs.length<=1000/\H dx=⇑(.own a):=by
 let#[d,z,ne,ob,mA,n,r,q]:=(show bT P w H h a (.ins C dx fs) from hok a _ e)
 show#[mA,#[ob,n,ne],r,q,z,d]
end
structure Cls (K:W.Frag) (C:Addr):Prop where
 pg:PySem.W.plainGet K C Str.empty=true
 hd:PySem.W.hasDictIn K C=true
 po:PySem.W.plainOver K C=true
 sa:PySem.W.findIn K ↥C "__setattr__"=⇑⇑(.builtin "object.__setattr__")
def Cls.get {K:L7} {C:L6} (c:Cls K C) (f:Str):PySem.W.plainGet K C f=true:=c.pg
abbrev cC (K:L7) (C:L6) (f:Str):Prop:=PySem.W.findIn K ↥C f=⇑none
def cC.taker {f:Str} (n:cC K C f):PySem.W.takerIn K C f=⇑none:=by unfold PySem.W.takerIn;rw[show PySem.W.findIn K ↥C f=⇑none from n];rfl
structure Meth (K:W.Frag) (C:Addr) (m:Str) (f:Addr):Prop where
 at_:PySem.W.findIn K ↥C m=⇑⇑↥f
 fn:PySem.W.isFn K ↥f=true
 kp:PySem.W.keepIn K ↥f=true
section
variable {X:Cx} {pins:List (L6×Obj)} {σ:St} {H:Hp} {s:L5} {a C dx:L6} {fs:List (Str×V)} {f:Str} {v:V} {A:Around} {E:K'->L5->Prop}
def GQ {b:Bool} {Q:K'->L5->Prop} (I:Inv X pins σ H s) (e:H a=⇑(.ins C dx fs)) (c:Cls X.K C) (n:cC X.K C f) (l:fs.lookup f=⇑v)
   (h:∀u s',Inv X pins σ H s'->aX v u->Q u s'):wpAny 0x2 A (getAttr ↥a f b) Q E s:=by
 let#[mA,O,r,_,_,_]:=mh I.hok e;let#[u,hu,ru]:=d7.some_of (v:=v) (o:=mA f) (by rw[<- l]; exact r f);exact Ba I.kIn O (c.get f) c.hd n hu (BF ru) (h u _ (I.tok _) ru)
def jo {m:Str} {g:L6} {Q:K'×List K'->L5->Prop} (I:Inv X pins σ H s) (e:H a=⇑(.ins C dx fs)) (c:Cls X.K C) (k:Meth X.K C m g) (l:fs.lookup m=none)
   (h:Q (↥g,[↥a]) s):wpAny 0x2 A (getMethod ↥a m pl) Q E s:=by
 let#[mA,O,r,_,_,_]:=mh I.hok e;have hn:mA m=none:=d7.none_of (by rw[<- l]; exact r m);exact Ea I.kIn O (c.get m) k.at_ k.fn hn h
def FW {y:V} {Q:Unit->L5->Prop} (I:Inv X pins σ H s) (e:H a=⇑(.ins C dx fs)) (c:Cls X.K C) (n:cC X.K C f) (hl:fs.length<1000) (ry:aX y u)
   (h:∀s',Inv X pins σ (upd H a (.ins C dx (bO f y fs))) s'->Q () s'):wpAny 0x2 A (setAttr ↥a f u) Q E s:=by
 let#[mA,O,r,wi,_,ho]:=mh I.hok e;have hz:(fs.map (·.1)).length<=sizeLine:=by rw[HS,sizeLine_eq]; lia
 refine AY I.kIn O c.sa c.po n.taker c.hd wi hz λh' O' sb=>h _ ?_;have hd:∃o,h'.get? dx=⇑o:=by let#[o,_,_,e',_]:=O'.ns; show#[o,e']
 refine I.write (x:=a) (e:=dx) (by rw[e]; exact True.intro) (.inr ho) (λb q hb z=>(sb.2 b hb)\z) hd ?_;show#[by rw[aM O.ne]; exact ho,?_,O.ne,O'.obj,_,O'.ns,λg=>?_,λg hg=>?_]
 . have:=mQ f y fs; lia
 . show d7 ((bO f y fs).lookup g) (if g=f then ⇑u else mA g);rw[bo];by_cases q:g=f
   . rw[He q,He q]; exact ry
   . rw[HX q,HX q]; exact r g
 . by_cases q:g=f
   . rw[q]; exact(qk f y fs).1
   . refine(qk f y fs).2 g (wi g λz=>hg ?_);show(if g=f then ⇑u else mA g)=none;rw[HX q]; exact z
def Inv.made (I:Inv X pins σ H s):Inv X pins σ (upd (upd H s.heap.objs.size (.own (s.heap.objs.size+1))) (s.heap.objs.size+1) (.ins C s.heap.objs.size []))
   { s with heap:=(s.heap.push PySem.W.emptyDict).push (PySem.W.instObj C s.heap.objs.size) }:=by
 have e1:(s.heap.push PySem.W.emptyDict).get? s.heap.objs.size=⇑PySem.W.emptyDict:=Hs s.heap rfl;have e2:((s.heap.push PySem.W.emptyDict).push (PySem.W.instObj C s.heap.objs.size)).get? (s.heap.objs.size+1)=⇑(PySem.W.instObj C s.heap.objs.size):=by have:=Hs (s.heap.push PySem.W.emptyDict) (o:=PySem.W.instObj C s.heap.objs.size) rfl;rwa [Iy] at this
 have e3:(s.heap.push PySem.W.emptyDict).Ns s.heap.objs.size (λ_=>none):=#[PySem.W.emptyDict,0xA,_,e1,rfl,(λe he=>absurd he 0x6),λ_=>rfl]
 have I1:=I.laid (a:=s.heap.objs.size) (o:=.own (s.heap.objs.size+1)) (h':=s.heap.push PySem.W.emptyDict) (t':=s.toks) (λb u q=>HW _ q) (HY _) #[_,e1];refine I1.laid (a:=s.heap.objs.size+1) (o:=.ins C s.heap.objs.size []) (t':=s.toks) (λb u q=>HW _ q) (Nat.le_of_eq (Iy _ _)) ?_;have ne:s.heap.objs.size≠s.heap.objs.size+1:=IG (Iw _);show#[by rw[aM ne,aH],Hw _,ne,e2,λ_=>none,(Heap.Ns1.of_empty e3).at λo q=>HW _ q,λ_=>True.intro,λy hy=>absurd rfl hy]
def Av {prog:Program} {env:Env} {e:Expr} {f:Str} {Q:K'->L5->Prop} (hb:attributeBase e f env (eval e env)=eval e env)
   (h:wpAny 0x3 A (eval e env) (λo s₁=>wpAny 0x3 A (getAttr o f true) Q E s₁) E s):wpAny 0x3 A (eval (.Attribute e f pos) env) Q E s :=
 Attribute_any_ h (by rw[arm_eval_Attribute,hb])
end
abbrev pA (K:L7) (ta:TE) (f:Str):TE:=λσ H Q=>ta σ H λx H1=>∃a C dx fs v,x=↥a/\H1 a=⇑(.ins C dx fs)/\Cls K C/\cC K C f/\fs.lookup f=⇑v/\Q v H1
abbrev FA (K:L7) (ta tv:TE) (f:Str):TS:=λD σ H=>tv σ H λy H1=>ta σ H1 λx H2=>∃a C dx fs,x=↥a/\H2 a=⇑(.ins C dx fs)/\Cls K C/\cC K C f/\fs.length<1000 /\
 D.nx σ (upd H2 a (.ins C dx (bO f y fs)))
section
variable {X:Cx} {o e value:Expr} {f:Str} {pos pos' tpos:Pos} {ta tv:TE}
def wX (he:PE X e ta) (hb:attributeBase e f X.env (eval e X.env)=eval e X.env):PE X (.Attribute e f pos) (pA X.K ta f):=by intro pins s σ H Q I h;refine Av hb (aQ (he pins s σ H _ I h) λu s1 z60_=>?_);let#[x,H1,I1,rx,a,C,dx,fs,v,ex,ea,c,n,l,q]:=z60_;subst ex;obtain rfl:u=Value.ref a:=rx;exact GQ I1 ea c n l λu' s2 I2 ru=>#[v,H1,I2,ru,q]
def cK (ha:PE X o ta) (hv:PE X value tv) (hs:swapsWith value ⇑(.Attribute o f pos') pos.line X.env=pure false):PS X (.Assign [.Attribute o f pos'] value pos) (FA X.K ta tv f):=by intro pins s σ H D I h;refine plainObj_wpAny_Assign_Attribute (aQ (hv pins s σ H _ I h) λu s1 z62_=>z62_.e λy H1 I1 ry q=>aQ (ha pins s1 σ H1 _ I1 q) λov s2 z63_=>?_) hs;let#[x,H2,I2,rx,a,C,dx,fs,ex,ea,c,n,l,q2]:=z63_;subst ex;obtain rfl:ov=Value.ref a:=rx;exact FW I2 ea c n l ry λs3 I3=>#[σ,_,I3,q2]
end
section
variable {X:Cx} {pins:List (L6×Obj)} {σ:St} {H:Hp} {s:L5} {A:Around} {E:K'->L5->Prop} {Q:K'->L5->Prop} {c:K'} {b:Bool}
inductive TyOf (K:W.Frag) (H:Hp):V->Value->Prop where
 | non:TyOf K H .non (.type "NoneType")
 | bl (x:Bool):TyOf K H (.bl x) (.type "bool")
 | int (i:Int):TyOf K H (.int i) (.type "int")
 | str (x:Str):TyOf K H (.str x) (.type "str")
 | flt (x:UInt64):TyOf K H (.flt x) (.type "float")
 | lst {a:Addr} {xs:List V} (e:H a=⇑(.lst xs)):TyOf K H ↥a (.type "list")
 | frz {a:Addr} {o:Obj} {xs:List V} (e:H a=⇑(.frz o (.lst xs))):TyOf K H ↥a (.type "list")
 | tup {a:Addr} {xs:List V} (e:H a=⇑(.tup xs)):TyOf K H ↥a (.type "tuple")
 | dK {a:Addr} {kvs:List (aF×V)} (e:H a=⇑(.dK kvs)):TyOf K H ↥a (.type "dict")
 | dT {a:Addr} {kvs:List (List aF×V)} (e:H a=⇑(.dT kvs)):TyOf K H ↥a (.type "dict")
 | ins {a C dx:Addr} {fs:List (Str×V)} (e:H a=⇑(.ins C dx fs)) (cl:Cls K C) (ha:PySem.W.findIn K ↥C "__class__"=⇑⇑(.builtin "object.__class__"))
     (hn:PySem.W.specialIn K (.builtin "object.__class__") "__get__"=⇑⇑(.builtin "getset_descriptor.__get__")) (htk:PySem.W.takesIn K (.builtin "object.__class__")=⇑true)
     (hm:PySem.W.mroIn K C (.type "object")=⇑true):TyOf K H ↥a ↥C
def tM {x:V} {t:K'}(I:Inv X pins σ H s) (rx:aX x u) (ty:TyOf X.K H x t) (e:PySem.W.kitOne X.K t c=⇑b) (h:∀tk,Q (.bool b) { s with toks:=tk }) :
   wpAny 0x2 A (call (.builtin "isinstance") [u,c]) Q E s:=by
 cases ty with
 | non=>cases (show u=Value.none from rx); exact PySem.W.kia_one PySem.W.kitx_none I.kIn True.intro e (λz=>nomatch z) h
 | bl y=>cases (show u=Value.bool y from rx); exact PySem.W.kia_one PySem.W.kitx_bool I.kIn True.intro e (λz=>nomatch z) h
 | int i=>let#[t,q]:=(show ∃t,u=Value.int i t from rx); cases q; exact PySem.W.kia_one PySem.W.kitx_int I.kIn True.intro e (λz=>nomatch z) h
 | str y=>let#[t,q]:=(show ∃t,u=Value.str y t from rx); cases q; exact PySem.W.kia_one PySem.W.kitx_str I.kIn True.intro e (λz=>nomatch z) h
 | flt y=>let#[t,q]:=(show ∃t,u=Value.float y t from rx); cases q; exact PySem.W.kia_one PySem.W.kitx_float I.kIn True.intro e (λz=>nomatch z) h
 | @lst a xs ea =>
   cases (show u=Value.ref a from rx);let#[_,_,n,_,h1]:=(show bT X.prog X.w H s.heap a (.lst xs) from I.hok a _ ea)
   exact PySem.W.kia_one PySem.W.kitx_list I.kIn #[_,h1,rfl] e (λz=>nomatch z) h
 | @frz a ob xs ea =>
   cases (show u=Value.ref a from rx);let#[_,_,_,n,_,h1]:=(show bT X.prog X.w H s.heap a (.frz ob (.lst xs)) from I.hok a _ ea)
   exact PySem.W.kia_one PySem.W.kitx_list I.kIn #[_,h1,rfl] e (λz=>nomatch z) h
 | @tup a xs ea =>
   cases (show u=Value.ref a from rx);let#[_,_,_,p]:=(show bT X.prog X.w H s.heap a (.tup xs) from I.hok a _ ea)
   let#[o,h1,h2,_]:=p;exact PySem.W.kia_one PySem.W.kitx_tuple I.kIn #[o,h1,h2] e (λz=>nomatch z) h
 | @dK a kvs ea =>
   cases (show u=Value.ref a from rx);let#[_,_,vs,_,p]:=(show bT X.prog X.w H s.heap a (.dK kvs) from I.hok a _ ea)
   let#[o,es,ep,h1,h2,_]:=p;exact PySem.W.kia_one PySem.W.kitx_dict I.kIn #[o,h1,h2.1] e (λz=>nomatch z) h
 | @dT a kvs ea =>
   cases (show u=Value.ref a from rx);let#[_,_,xs,_,o,es,ep,h1,h2,_]:=(show bT X.prog X.w H s.heap a (.dT kvs) from I.hok a _ ea)
   exact PySem.W.kia_one PySem.W.kitx_dict I.kIn #[o,h1,h2.1] e (λz=>nomatch z) h
 | @ins a C dx fs ea cl ha hn htk hm =>
   cases (show u=Value.ref a from rx);let#[mA,O,_]:=mh I.hok ea;let#[od,J,_]:=O.look;exact PySem.W.kia_one (PySem.W.kitx_own (cl.get _) cl.hd ha hn htk hm) I.kIn J e (λz=>nomatch z) h
end
structure Room (k:Nat) (A:Around):Prop where
 hd:A.handled=none
 dp:A.depth+3 * k+5<recursionLimit
 un:A.units+16 * k+200<cLine
def Room.mono {j k:Nat} {A:Around} (r:Room k A) (h:j<=k):Room j A:=#[r.hd,by have:=r.dp; lia,by have:=r.un; lia]
def Room.deeper {k:Nat} {A:Around} (r:Room (k+1) A) (env:Env):Room k (A.deeper env) :=
 #[r.hd,by have:=r.dp; show A.depth+1+3 * k+5<_; lia,by have:=r.un; show A.units+3+16 * k+200<_; lia]
def GA {A:Around} {kw:List (Str×K')}:(A.under (.builtin "type.__call__" #[↥C::us,kw])).depth=A.depth+1:=by
 first|rfl|simp [Around.under,Code.weight,Code.isCreation,Code.isGuard,Code.isCaller,Code.frames,Code.isFrame,guardIds]
def EG {A:Around} {kw:List (Str×K')}:(A.under (.builtin "type.__call__" #[↥C::us,kw])).units=A.units+1:=by
 first|rfl|simp [Around.under,Code.cUnits,Code.frames,Code.isFrame]
def Room.make {k:Nat} {A:Around} (r:Room (k+1) A) (C:L6) (us:List K') (kw:List (Str×K')):Room k (A.under (.builtin "type.__call__" #[↥C::us,kw])) :=
 #[r.hd,by have:=r.dp; rw[GA]; lia,by have:=r.un; rw[EG]; lia]
def Room.depth {k:Nat} {A:Around} (r:Room k A):A.depth<recursionLimit:=by have:=r.dp; lia
def Room.units {k:Nat} {A:Around} (r:Room k A):A.units+64<cLine:=by have:=r.un; lia
abbrev my:TA:=λ_ H Q=>Q [] H
abbrev vC (ta:TE) (tr:TA):TA:=λσ H Q=>ta σ H λx H1=>tr σ H1 λxs H2=>Q (x::xs) H2
section
variable {X:Cx} {e:Expr} {es:List Expr} {te:TE} {t:TA} {pos:Pos}
def aD:PA X [] my:=λ_ _ _ _ H Q I h=>Calls.spliced_nil #[[],H,I,.nil,h]
def aN (ha:PE X e te) (hr:PA X es t) (hs:starEach (e::es) X.env=(false,eval e X.env)::starEach es X.env:=by rfl):PA X (e::es) (vC te t):=by intro pos pins s σ H Q I h;rw[hs];show wpAny _ _ (spliced ((false,eval e X.env)::backTo pos (starEach es X.env))) _ _ s;refine Calls.spliced_cons (aQ (ha pins s σ H _ I h) λu s1 z68_=>?_);let#[x,H1,I1,r1,q1]:=z68_;exact aQ (hr pos pins s1 σ H1 _ I1 q1) λus s2 z69_=>by let#[xs,H2,I2,r2,q2]:=z69_; show#[x::xs,H2,I2,.cons r1 r2,q2]
def aC {e:Expr} {es:List Expr} {t:TA} (ha:PE X e te) (hr:PA X es t) (hs:starEach (e::es) X.env=(false,eval e X.env)::starEach es X.env):PA X (e::es) (vC te t):=aN ha hr hs
abbrev Ap (t:TA):TE:=λσ H Q=>t σ H λxs H1=>xs.length<=sizeLine/\∀p,H1 p=none->Q ↥p (upd H1 p (.tup xs))
abbrev sT (t:TA):TE:=λσ H Q=>t σ H λxs H1=>xs.length<=sizeLine/\∀p,H1 p=none->Q ↥p (upd H1 p (.lst xs))
def bA {x1} (h:PA X es t):PE X (.Tuple es x1 pos) (Ap t):=by intro pins s σ H Q I hq;refine wpAny_Tuple_spliced (aQ (h pos pins s σ H _ I hq) λus s1 ⟨xs,H1,I1,r,z,q⟩=>#[by rw[<- r.length]; exact z,?_]);have hf:H1 s1.heap.objs.size=none:=I1.hok.fresh (HY _);show#[↥s1.heap.objs.size,upd H1 s1.heap.objs.size (.tup xs),I1.laid (t':=s1.toks) (λb u e=>HW _ e) (HY _) ?_,rfl,q _ hf];show#[z,us,r,#[_,Hs _ rfl,13]]
def bE (h:PA X es t):PE X (.List es pos) (sT t):=by intro pins s σ H Q I hq;refine wpAny_List_spliced (aQ (h pos pins s σ H _ I hq) λus s1 ⟨xs,H1,I1,r,z,q⟩=>#[by rw[<- r.length]; exact z,?_]);have hf:H1 s1.heap.objs.size=none:=I1.hok.fresh (HY _);show#[↥s1.heap.objs.size,upd H1 s1.heap.objs.size (.lst xs),I1.laid (t':=s1.toks) (λb u e=>HW _ e) (HY _) ?_,rfl,q _ hf];show#[z,us,(0),r,Hs _ rfl]
end
noncomputable abbrev Sp:=List V->Hp->VK->XK->Prop
noncomputable abbrev di:=List Env->Hp->L5->XK->K'->L5->Prop
structure Env0 (P:Program) (w:World) (K:W.Frag) (mg:Str->Option Value) (base:Heap) (A:Around) (outer:List Env) (s:Shared) (H:Hp):Prop where
 frames:A.frames=⇑outer
 mod:Mod K mg base
 bs:∀b o,base.get? b=⇑o->s.heap.get? b=⇑o/\H b=none
 bsz:base.objs.size<=s.heap.objs.size
 funs:s.heap.FunFrames base outer
 frf:∀b∈cE outer,H b=none
 hok:az P w H s.heap
 bare:AllBare s.gens
abbrev CE (outer:List Env) (P:Program) (w:World) (H:Hp) (s:L5) (Q:VK) (u:K') (s':L5):Prop :=
 ∃v H',s'.os=s.os/\AllBare s'.gens/\Un (cE outer) [] H H' s.heap s'.heap/\az P w H' s'.heap/\aX v u/\Q v H'
abbrev CR (CX:di) (outer:List Env) (P:Program) (w:World) (H:Hp) (s:L5) (Q:VK) (E:XK) (r:Result) (s':L5):Prop :=
 match r with
 | .ok (.ret u)=>CE outer P w H s Q u s'
 | .ok _=>False
 | .error e=>CX outer H s E e s'
structure FnOk (P:Program) (w:World) (K:W.Frag) (mg:Str->Option Value) (base:Heap) (CX:di) (k:Nat) (f:Addr) (fd:FuncData) (ps:List Str) (sp:Sp):Prop where
 len:∀vs H Q E,sp vs H Q E->vs.length=ps.length
 run:∀(A:Around) (outer:List Env) (s:Shared) (H:Hp) (args:Args) (us:List Value) (vs:List V) (Q:VK) (E:XK),Room k A->Env0 P w K mg base A outer s H->BindsTo s fd args (ps.zip us)->aU vs us->sp vs H Q E ->
   codeAny (model P w) A (.call ↥f args) (CR CX outer P w H s Q E) s
variable {base:Heap}
def Env0.make {mg:Str->Hl K'} {A:Around} {outer:List Env} (e:Env0 P w K mg base A outer s H) (C:L6) (us:List K') (kw:List (Str×K')) :
   Env0 P w K mg base (A.under (.builtin "type.__call__" #[↥C::us,kw])) outer s H:=#[by first|exact e.frames|(simpa [Around.under,Code.envs,Code.isFrame,pushEnvs] using e.frames),e.mod,e.bs,e.bsz,e.funs,e.frf,e.hok,e.bare]
section
variable {X:Cx} {pins:List (L6×Obj)} {σ:St} {H:Hp} {s s':L5}
def Inv.env0 (I:Inv X pins σ H s):Env0 X.prog X.w X.K X.mg X.base X.A X.stack s H :=
 #[I.ok.frames,I.ok.mod,I.bs,Hu I.ok.bsz I.sz,I.stack,I.stkFree,I.hok,I.bare]
def Inv.after {Q:VK} (I:Inv X pins σ H s) (h:CE X.stack X.prog X.w H s Q u s'):EP X pins σ Q u s':=by let#[v,H',os,bare,un,hok,r,q]:=h;let#[hh,g,d,t,os']:=s';obtain rfl:os'=s.os:=os;show#[v,H',I.call (h':=hh) (g':=g) (d':=d) (t':=t) (ch:=[]) un hok bare (λb z=>absurd z 0x6),r,q]
end
abbrev mU (sp:Sp) (dvs:List V) (E:XK) (t:TA):TE:=λσ H Q=>t σ H λvs H1=>sp (vs++dvs) H1 Q E
abbrev kK (C:L6) (m:Str) (sp:Sp) (dvs:List V) (E:XK) (ta:TE) (t:TA):TE:=λσ H Q=>ta σ H λx H1=>∃a dx fs,x=↥a/\H1 a=⇑(.ins C dx fs)/\fs.lookup m=none /\
 t σ H1 λvs H2=>sp (x::(vs++dvs)) H2 Q E
abbrev rZ (C:L6) (sp:Sp) (dvs:List V) (E:XK) (t:TA):TE:=λσ H Q=>t σ H λvs H1=>∀x dx,H1 x=none->H1 dx=none->dx≠x ->
 sp (↥x::(vs++dvs)) (upd (upd H1 dx (.own x)) x (.ins C dx [])) (λv H2=>v=.non/\Q ↥x H2) E
abbrev d9 (K:L7) (fd:FuncData) (ps:List Str) (ds:List K'):Prop :=
 ∀(s:L5) (us:List K'),K.In s.heap->(us++ds).length=ps.length->BindsTo s fd #[us,[]] (ps.zip (us++ds))
def d9.all {fd:FuncData} {ps:List Str} (h:∀us:List K',us.length=ps.length->bindArgs fd #[us,[]]=pure (ps.zip us)):d9 K fd ps []:=λs us _ hl=>by rw[IQ] at hl ⊢;exact .of_eq (h us hl)
abbrev fR (CX:di) (X:Cx) (E:XK):Prop:=∀(pins:List (L6×Obj)) (σ:St) (H:Hp) (s:L5) (e:K') (s':L5),Inv X pins σ H s->CX X.stack H s E e s'->X.xe e s'
section
variable {X:Cx} {CX:di} {k:Nat} {f C:L6} {fd:FuncData} {ps:List Str} {sp:Sp} {dvs:List V} {ds:List K'} {E:XK} {x m:Str} {p pos apos:Pos} {e o:Expr} {es:List Expr} {ta:TE} {t:TA}
def m9 {Q:VK} {vs:List V} (F:FnOk X.prog X.w X.K X.mg X.base CX k f fd ps sp) (hr:Room k X.A) (hb:d9 X.K fd ps ds) (hd:aU dvs ds) (hx:fR CX X E)
   (I:Inv X pins σ H s) (r:aU vs us) (h:sp (vs++dvs) H Q E):wpAny 0x2 X.A (call ↥f us) (EP X pins σ Q) X.xe s:=by
 have r2:aU (vs++dvs) (us++ds):=r.append hd;have hl:(us++ds).length=ps.length:=by rw[<- r2.length]; exact F.len _ _ _ _ h
 refine Jp (Jk (F.run X.A X.stack s H #[us,[]] (us++ds) (vs++dvs) Q E hr I.env0 (hb s us I.kIn hl) r2 h) λr s' hq=>?_);cases r with
 | error e=>exact hx pins σ H s e s' I hq
 | ok fl =>
   cases fl with
   | ret u=>exact I.after hq
   | next=>exact False.elim hq
   | brk=>exact False.elim hq
   | cont=>exact False.elim hq
def DD (F:FnOk X.prog X.w X.K X.mg X.base CX k f fd ps sp) (hr:Room k X.A) (hg:Gl X x) (hm:X.mg x=⇑↥f) (hk:PySem.W.keepIn X.K ↥f=true) (hb:d9 X.K fd ps ds) (hd:aU dvs ds) (hx:fR CX X E)
   (ha:PA X (e::es) t) (hdb:(x==("__debug__":Str))=false:=by decide) (he:starEach (e::es) X.env=(false,eval e X.env)::starEach es X.env:=by rfl) (hpl:(backTo pos (starEach es X.env)).any (·.1)=false:=by rfl) :
   PE X (.Call (.Name x p) (e::es) [] pos) (mU sp dvs E t):=by
 intro pins s σ H Q I h;refine JM (kz I hg hm ?_ hdb);refine PySem.W.callWith_K (h₀:=X.base) I.ok.mod.kin hk (aQ (ha pos pins s σ H _ I h) λus s1 z72_=>z72_.e λvs H1 I1 r q=>#[I1.kIn,?_]) he hpl;exact m9 F hr hb hd hx I1 r q
def bJ (he:PE X o ta) (c:Cls X.K C) (hm:Meth X.K C m f) (F:FnOk X.prog X.w X.K X.mg X.base CX k f fd ps sp) (hr:Room k X.A) (hb:d9 X.K fd ps ds) (hd:aU dvs ds) (hx:fR CX X E) (ha:PA X (e::es) t)
   (hst:starEach (e::es) X.env=(false,eval e X.env)::starEach es X.env:=by rfl) (hpl:(backTo pos (starEach es X.env)).any (·.1)=false:=by rfl)
   (ht:eval (.Call (.Attribute o m apos) (e::es) [] pos) X.env=(do
     let ov <- eval o X.env
     standAt apos.atName
     let (f,first) <- holding [ov] (getMethod ov m pl)
     callWith pos f first (backTo pos (starEach (e::es) X.env)) (backToKw pos (keywordEach [] X.env))):=by rfl) :
   PE X (.Call (.Attribute o m apos) (e::es) [] pos) (kK C m sp dvs E ta t):=by
 intro pins s σ H Q I h;refine PySem.W.methodCall_KW (pl:=pl) (aQ (he pins s σ H _ I h) λu s1 z73_=>?_) ht;let#[x,H1,I1,rx,a,dx,fs,ex,ea,l,q]:=z73_;subst ex;obtain rfl:u=Value.ref a:=rx;refine jo I1 ea c hm l ?_;refine PySem.W.callWith_K (first:=[↥a]) (h₀:=X.base) I.ok.mod.kin hm.kp (aQ (ha pos pins s1 σ H1 _ I1 q) λus s2 z74_=>z74_.e λvs H2 I2 r q2=>#[I2.kIn,?_]) hst hpl;exact m9 (us:=↥a::us) (vs:=↥a::vs) F hr hb hd hx I2 (.cons rfl r) q2
def gk (he:PE X o ta) (c:Cls X.K C) (hm:Meth X.K C m f) (F:FnOk X.prog X.w X.K X.mg X.base CX k f fd ps sp) (hr:Room k X.A) (hb:d9 X.K fd ps ds) (hd:aU dvs ds) (hx:fR CX X E)
   (ht:eval (.Call (.Attribute o m apos) [] [] pos) X.env=(do
     let ov <- eval o X.env
     standAt apos.atName
     let (f,first) <- holding [ov] (getMethod ov m pl)
     callWith pos f first (backTo pos (starEach [] X.env)) (backToKw pos (keywordEach [] X.env))):=by rfl) :
   PE X (.Call (.Attribute o m apos) [] [] pos) (kK C m sp dvs E ta my):=by
 intro pins s σ H Q I h;refine PySem.W.methodCall_KW (pl:=pl) (aQ (he pins s σ H _ I h) λu s1 z75_=>?_) ht;let#[x,H1,I1,rx,a,dx,fs,ex,ea,l,q]:=z75_;subst ex;obtain rfl:u=Value.ref a:=rx;refine jo I1 ea c hm l ?_;exact PySem.W.callWith_K0 (first:=[↥a]) I1.kIn hm.kp (m9 (us:=[↥a]) (vs:=[↥a]) F hr hb hd hx I1 (.cons rfl .nil) q)
structure Mk (K:W.Frag) (C f:Addr):Prop where
 makes:PySem.W.makesIn K C=true
 init:PySem.W.findIn K ↥C "__init__"=⇑⇑↥f
 fn:PySem.W.isFn K ↥f=true
 kp:PySem.W.keepIn K ↥C=true
def AT {Q:VK} {vs:List V} (M:Mk X.K C f) (F:FnOk X.prog X.w X.K X.mg X.base CX k f fd ps sp) (hr:Room (k+1) X.A) (hb:d9 X.K fd ps ds) (hd:aU dvs ds)
   (hx:fR CX X E) (I:Inv X pins σ H s) (r:aU vs us)
   (h:∀x dx,H x=none->H dx=none->dx≠x->sp (↥x::(vs++dvs)) (upd (upd H dx (.own x)) x (.ins C dx [])) (λv H2=>v=.non/\Q ↥x H2) E) :
   wpAny 0x2 X.A (call ↥C us) (EP X pins σ Q) X.xe s:=by
 have hq:=h (s.heap.objs.size+1) s.heap.objs.size (I.hok.fresh (Ja _)) (I.hok.fresh (HY _)) (IG (Iw _));have I2:=Inv.made (C:=C) I;have r2:aU (V.ref (s.heap.objs.size+1)::(vs++dvs)) (Value.ref (s.heap.objs.size+1)::(us++ds)):=.cons rfl (r.append hd);have hl:(Value.ref (s.heap.objs.size+1)::us++ds).length=ps.length:=by have e:=r2.length;rw[F.len _ _ _ _ hq] at e;exact e.symm
 refine Jp (Cz (f:=f) I.kIn M.makes M.init (beq_iff_eq.mp M.fn) (Jk (F.run _ X.stack _ _ #[Value.ref (s.heap.objs.size+1)::us,[]] (Value.ref (s.heap.objs.size+1)::(us++ds)) _ _ E (hr.make C us [])
   (I2.env0.make C us []) (hb _ (Value.ref (s.heap.objs.size+1)::us) I2.kIn hl) r2 hq) λr s' hq'=>?_))
 cases r with
 | error e=>exact hx pins σ _ _ e s' I2 hq'
 | ok fl =>
   cases fl with
   | ret u =>
     let#[v,H',I3,rv,ev,q3]:=I2.after hq';subst ev;show#[rv,#[V.ref (s.heap.objs.size+1),H',I3,rfl,q3]]
   | next=>exact False.elim hq'
   | brk=>exact False.elim hq'
   | cont=>exact False.elim hq'
def B' (M:Mk X.K C f) (F:FnOk X.prog X.w X.K X.mg X.base CX k f fd ps sp) (hr:Room (k+1) X.A) (hg:Gl X x) (hm:X.mg x=⇑↥C) (hb:d9 X.K fd ps ds) (hd:aU dvs ds) (hx:fR CX X E)
   (ha:PA X (e::es) t) (hdb:(x==("__debug__":Str))=false:=by decide) (he:starEach (e::es) X.env=(false,eval e X.env)::starEach es X.env:=by rfl) (hpl:(backTo pos (starEach es X.env)).any (·.1)=false:=by rfl) :
   PE X (.Call (.Name x p) (e::es) [] pos) (rZ C sp dvs E t):=by
 intro pins s σ H Q I h;refine JM (kz I hg hm ?_ hdb);refine PySem.W.callWith_K (h₀:=X.base) I.ok.mod.kin M.kp (aQ (ha pos pins s σ H _ I h) λus s1 z76_=>z76_.e λvs H1 I1 r q=>#[I1.kIn,?_]) he hpl;exact AT M F hr hb hd hx I1 r q
end
structure FnScope (N P:List Str) (sc:Scope):Prop where
 kind:sc.kind=.function
 co:sc.isCoroutine=false
 gen:sc.isGenerator=false
 nd:N.Nodup
 pre:N.take P.length=P
 par:∀x∈P,sc.names.lookup x=some .local\/sc.names.lookup x=some .cell
 nofree:∀y∈sc.names,y.2≠.free
def uq {kindOf:Str->Hl NameKind} {x:Str}:∀{binds:List (Str×K')} {m:Str->Hl K'},(∀v,(x,v) ∉ binds)->bindL kindOf binds m x=m x
 | [],_,_=>rfl
 | (n,v)::r,m,h=>by
   unfold bindL;rw[uq λw hw=>h w (Hv _ hw)];split
   . have:x≠n:=by rintro rfl; exact h v Hj
     simp [this]
   . rfl
def uK {kindOf:Str->Hl NameKind} {x:Str}:∀{binds:List (Str×K')} {m:Str->Hl K'},(∀v,(x,v) ∉ binds)->bindC kindOf binds m x=m x
 | [],_,_=>rfl
 | (n,v)::r,m,h=>by
   unfold bindC;rw[uK λw hw=>h w (Hv _ hw)];split
   . rfl
   . have:x≠n:=by rintro rfl; exact h v Hj
     simp [this]
def tI {kindOf:Str->Hl NameKind} {x:Str} {v:K'}:∀{P:List Str} {vs:List K'} {i:Nat} {m:Str->Hl K'},P.Nodup->P[i]?=⇑x->vs[i]?=⇑v->kindOf x=some .local ->
   bindL kindOf (P.zip vs) m x=⇑v
 | [],_,_,_,_,h,_,_=>by simp at h
 | _::_,[],_,_,_,_,h,_=>by simp at h
 | p::P,w::vs,0,m,nd,h1,h2,hk=>by simp at h1 h2; subst h1; subst h2;show bindL kindOf ((p,w)::P.zip vs) m p=_;unfold bindL;rw[uq λv hv=>(JP.mp nd).1 (KD hv).1,He hk];simp
 | p::P,w::vs,i+1,m,nd,h1,h2,hk=>by show bindL kindOf ((p,w)::P.zip vs) m x=_;unfold bindL;exact tI (i:=i) (JP.mp nd).2 ↑h1 ↑h2 hk
def wV {kindOf:Str->Hl NameKind} {x:Str} {v:K'}:∀{P:List Str} {vs:List K'} {i:Nat} {m:Str->Hl K'},P.Nodup->P[i]?=⇑x->vs[i]?=⇑v->kindOf x≠some .local ->
   bindC kindOf (P.zip vs) m x=⇑v
 | [],_,_,_,_,h,_,_=>by simp at h
 | _::_,[],_,_,_,_,h,_=>by simp at h
 | p::P,w::vs,0,m,nd,h1,h2,hk=>by simp at h1 h2; subst h1; subst h2;show bindC kindOf ((p,w)::P.zip vs) m p=_;unfold bindC;rw[uK λv hv=>(JP.mp nd).1 (KD hv).1,HX hk];simp
 | p::P,w::vs,i+1,m,nd,h1,h2,hk=>by show bindC kindOf ((p,w)::P.zip vs) m x=_;unfold bindC;exact wV (i:=i) (JP.mp nd).2 ↑h1 ↑h2 hk
abbrev eJ (N:List Str) (vs:List V):St:=vs.map some++List.replicate (N.length - vs.length) none
abbrev cS (CX:di) (P:Program) (w:World) (K:L7) (mg:Str->Hl K') (base:Heap) (N:List Str) (qual:Str) (scope:Scope) (f:L6) (cd:K') (A:Around) (outer:List Env) (s:L5) (H:Hp) (E:XK):Cx where
 prog:=P
 w:=w
 K:=K
 mg:=mg
 base:=base
 A:=A.deeper (envOfC qual scope s.heap.objs.size f cd)
 N:=N
 s₀:=s
 H₀:=H
 env:=envOfC qual scope s.heap.objs.size f cd
 outer:=outer
 stack:=envOfC qual scope s.heap.objs.size f cd::outer
 ex:=[]
 calm:=true
 fn:=λ_=>true
 pn:=[]
 xe:=λe s'=>wpAny (model P w) (A.deeper (envOfC qual scope s.heap.objs.size f cd)) (leaving (envOfC qual scope s.heap.objs.size f cd) e) (λ_ s''=>CX outer H s E e s'') (λe' s''=>CX outer H s E e' s'') s'
def rf {sc:Scope} {n:Nat} (h:sc.names.lookup x=some .cell):∃c,(cellsFrom n sc.names []).lookup x=⇑c:=by have q:=PySem.W.cellsFrom_some sc.names n [] (.inl h);exact Jx.mp q
def wL {CX:di} {mg:Str->Hl K'} {N ps:List Str} {qual:Str} {scope:Scope} {f:L6} {cd:K'} {A:Around} {outer:List Env} {s1:L5}{E:XK} {vs:List V}
   (S:FnScope N ps scope) (hd:A.handled=none) (e0:Env0 P w K mg base A outer s H) (hl:vs.length=ps.length) (r:aU vs us)
   (x:InCallC s s.heap.objs.size (bindL (envOfC qual scope s.heap.objs.size f cd).kindOf (ps.zip us) λ_=>none) (cellsFrom (s.heap.objs.size+1) scope.names []) (bindC (envOfC qual scope s.heap.objs.size f cd).kindOf (ps.zip us) λ_=>none) s1) :
   Inv (cS CX P w K mg base N qual scope f cd A outer s H E) [] (eJ N vs) H s1:=by
 have hpl:ps.length<=N.length:=by have:=Hr List.length S.pre; rw[IE] at this; lia
 let#[h1,tk,rfl,hk]:=x.done;have noA:∀b:L6,b ∉ (cS CX P w K mg base N qual scope f cd A outer s H E).ex:=λb z=>absurd (show b∈([]:List L6) from z) 0x6;show#[#[e0.mod,S.kind,7,HY _,λy z c h1 h2=>?_,λy hy=>?_,λy c _ h=>?_,λ_=>hd,Around.frames_deeper e0.frames,.inr #[7],λb z=>absurd z (noA b),e0.bs,e0.bsz,λb _ _=>noA b,λb z=>absurd z (noA b),e0.funs,e0.frf],rfl,e0.bare,Un.kept hk,#[_,x.toInCall.ns,λi y v h1 h2 h3=>?_],λy c h=>#[_,x.cell y c h],e0.hok.fresh (HY _),λy c h=>?_,λp hp=>absurd (show p∈([]:List (L6×Obj)) from hp) 0x6,e0.hok.kept hk,?_]
 . exact name_of_addr x.apart (PySem.mem_of_lookup h1) (PySem.mem_of_lookup h2)
 . have hy:scope.names.lookup y=some .cell\/scope.names.lookup y=some .free:=hy;rcases hy with hy|hy
   . exact rf hy
   . exact absurd rfl (S.nofree _ (PySem.mem_of_lookup hy))
 . exact Jw (x.above y c (PySem.mem_of_lookup h))
 . have hi:i<vs.length:=by
     unfold eJ at h2;by_cases hi:i<vs.length
     . exact hi
     . rw[IS ↑hi] at h2;rw[Kn] at h2;split at h2 <;> cases h2
   have ha:vs[i]?=⇑v:=by
     unfold eJ at h2;rw[IV ↑hi,Hk] at h2;cases e:vs[i]? with
     | none=>rw[e] at h2; cases h2
     | some a=>rw[e] at h2; cases h2; rfl
   let#[u,hu,rv]:=r.get ha;have hp:ps[i]?=⇑y:=by rw[<- S.pre,JE ∅]; exact h1
   have ndP:ps.Nodup:=by rw[<- S.pre]; exact S.nd.sublist (List.take_sublist _ _)
   show#[u,rv,?_];rcases S.par y (IA hp) with k|k
   . exact .inl #[k,tI ndP hp hu k]
   . let#[c,e]:=rf (n:=s.heap.objs.size+1) k;refine .inr #[.inl k,c,e,?_];have q:=x.cell y c e;rw[wV ndP hp hu (by show scope.names.lookup y≠_; rw[k]; decide)] at q;exact q
 . exact e0.hok.fresh (Jw (x.above y c (PySem.mem_of_lookup h)))
 . unfold eJ;show _=N.length;rw[HZ,HS,JQ]
   lia
def tq {CX:di} {mg:Str->Hl K'} {k:Nat} {f:L6} {name qual:Str} {params:Arguments} {body:List Stmt} {scope:Scope} {dV kV doc pm cdv ct oc:K'} {an od:Hl L6}
   {osl:Array (Hl K')} {N ps:List Str} {sp:Sp} (lk:K.lookup f=⇑#[oc,od,.func (PySem.W.fnOf name qual params body scope dV kV doc pm an cdv ct),osl]) (hcd:PySem.W.codeIn K cdv qual=true) (S:FnScope N ps scope)
   (len:∀vs H Q E,sp vs H Q E->vs.length=ps.length)
   (hbody:∀(A:Around) (outer:List Env) (s:L5) (H:Hp) (vs:List V) (Q:VK) (E:XK),Room k (A.deeper (envOfC qual scope s.heap.objs.size f cdv))->sp vs H Q E ->
     ∃t,aO (cS CX P w K mg base N qual scope f cdv A outer s H E) body t/\t { nx:=λ_ H'=>Q .non H',rt:=Q } (eJ N vs) H) :
   FnOk P w K mg base CX (k+1) f (PySem.W.fnOf name qual params body scope dV kV doc pm an cdv ct) ps sp:=by
 show#[len,λA outer s H args us vs Q E hr e0 hb r hsp=>?_];have hl:=len _ _ _ _ hsp;have KX:K.In s.heap:=e0.mod.kin.keeps λb o e=>(e0.bs b o e).1;have lim:s.heap.NoLimit:=e0.mod.nolimit.keeps λb o e=>(e0.bs b o e).1;have hkind:∀y∈ps.zip us,scope.names.lookup y.1=some .local\/(scope.names.lookup y.1=some .cell/\((cellsFrom (s.heap.objs.size+1) scope.names []).lookup y.1).isSome=true):=λ⟨n,v⟩ hy=>by
   rcases S.par n (KD hy).1 with q|q
   . exact .inl q
   . exact .inr #[q,PySem.W.cellsFrom_some _ _ _ (.inl q)]
 refine codeAny_call_function hr.depth (KX _ _ lk) rfl S.co S.gen rfl (PySem.W.codeRec_of KX hcd) (hb _ _ _ _ ?_);refine Ka S.kind hkind λenv he s1 x=>?_;subst he;show#[lim.keeps x.toInCall.keep,codeAny_func ?_];let#[t,ht,hq]:=hbody A outer s H vs Q E (hr.deeper _) hsp;have I:Inv (cS CX P w K mg base N qual scope f cdv A outer s H E) [] (eJ N vs) H s1:=wL S hr.hd e0 hl r x;refine Il (ht [] s1 (eJ N vs) H _ I hq) (λfl s' hs=>?_) λe s' hs=>hs;have fin:∀{σ':St} {H':Hp} {v:V} {u:K'},Inv (cS CX P w K mg base N qual scope f cdv A outer s H E) [] σ' H' s'->aX v u->Q v H'->CE outer P w H s Q u s' :=
   λ{σ' H' v u} J rv q=>#[v,H',J.os,J.bare,J.base,J.hok,rv,q]
 cases fl with
 | ret u =>
   let#[v,σ',H',J,rv,q]:=hs;exact fin J rv q
 | next =>
   let#[σ',H',J,q]:=hs;exact fin (v:=V.non) (u:=Value.none) J rfl q
 | brk =>
   let#[_,_,_,q]:=hs;exact False.elim q
 | cont =>
   let#[_,_,_,q]:=hs;exact False.elim q
section
variable {X:Cx} {x:Str} {p pos:Pos} {e:Expr} {es:List Expr} {t:TA} {id T:String} {r:List V->Hp->VK->Prop}
abbrev qi (r:List V->Hp->VK->Prop) (t:TA):TE:=λσ H Q=>t σ H λvs H1=>r vs H1 Q
def ax (hc:ao X (.builtin id) r) (hg:Gl X x) (hm:X.mg x=none) (hv:bootBuiltins x=⇑(.builtin id)) (ha:PA X (e::es) t) (hn:x≠"__name__":=by decide) (hdb:(x==("__debug__":Str))=false:=by decide)
   (he:starEach (e::es) X.env=(false,eval e X.env)::starEach es X.env:=by rfl) (hpl:(backTo pos (starEach es X.env)).any (·.1)=false:=by rfl):PE X (.Call (.Name x p) (e::es) [] pos) (qi r t):=by
 intro pins s σ H Q I h;refine JM (fV I hg hm hv ?_ hn hdb);exact PyProof.Rows.callWith_builtin1 (aQ (ha pos pins s σ H _ I h) λus s1 z82_=>by let#[vs,H1,I1,r1,q1]:=z82_; exact hc pins s1 σ H1 vs us Q I1 r1 q1) he hpl
def de (hc:ao X (.type T) r) (hg:Gl X x) (hm:X.mg x=none) (hv:bootBuiltins x=⇑(.type T)) (ha:PA X (e::es) t) (hn:x≠"__name__":=by decide) (hdb:(x==("__debug__":Str))=false:=by decide)
   (he:starEach (e::es) X.env=(false,eval e X.env)::starEach es X.env:=by rfl) (hpl:(backTo pos (starEach es X.env)).any (·.1)=false:=by rfl):PE X (.Call (.Name x p) (e::es) [] pos) (qi r t):=by
 intro pins s σ H Q I h;refine JM (fV I hg hm hv ?_ hn hdb);exact Ie (aQ (ha pos pins s σ H _ I h) λus s1 z83_=>by let#[vs,H1,I1,r1,q1]:=z83_; exact hc pins s1 σ H1 vs us Q I1 r1 q1) he hpl
end
end L2
namespace HT
open PySem PyProof.Rows
section
variable {prog:Program} {w:World} {A:Around} {E:K'->L5->Prop} {s:L5}
abbrev sIx (n d:Nat):Hl Int->Nat
 | none=>d
 | some v=>if v<0 then(v+(n:Int)).toNat else min v.toNat n
def sIx_none (n d:Nat):sIx n d none=d:=rfl
def sIx_nat (n d k:Nat):sIx n d ⇑(k:Int)=min k n:=by show(if(k:Int)<0 then((k:Int)+(n:Int)).toNat else min (k:Int).toNat n)=min k n;rw[HX ∅,JI]
def FY (n d:Nat) (hd:d<=n) (o:Hl Int):sIx n d o<=n:=by
 cases o with
 | none=>exact hd
 | some v =>
   show(if v<0 then(v+(n:Int)).toNat else min v.toNat n)<=n;by_cases hv:v<0
   . rw[He hv]; lia
   . rw[HX hv]; exact Nat.min_le_right _ _
def wg (v:Int) (n d:Nat):(if v<0 then max (v+(n:Int)) 0 else min v (n:Int))=((sIx n d ⇑v:Nat):Int):=by
 show(if v<0 then max (v+(n:Int)) 0 else min v (n:Int))=(((if v<0 then(v+(n:Int)).toNat else min v.toNat n):Nat):Int);by_cases hv:v<0
 . simp only[He hv]; lia
 . simp only[HX hv]; lia
def EU (lo hi:Hl Int) (n:Nat):Builtin.Slice.sliceAdjust lo hi 1 (n:Int)=(((sIx n 0 lo:Nat):Int),((sIx n n hi:Nat):Int)):=by
 have h1:¬ ((1:Int)<0):=by lia
 unfold Builtin.Slice.sliceAdjust;simp only[h1,if_false];refine Prod.ext ?_ ?_
 . cases lo with
   | none=>rfl
   | some v=>exact wg v n 0
 . cases hi with
   | none=>rfl
   | some v=>exact wg v n n
def FG (i j:Nat):Builtin.Slice.slicePlaces (i:Int) (j:Int) 1=j - i:=by
 unfold Builtin.Slice.slicePlaces;have h1:(1:Int) > 0:=by lia
 simp only[h1,if_true,Int.ediv_one];split <;> lia
def uT {v:K'} {o:Hl Int} {Q:Hl Int->L5->Prop} (p:IsPart v o) (h:Q o s):wpAny 0x3 A (Builtin.Slice.slicePartIndex v) Q E s:=by
 cases p with
 | none=>exact slicePart_none h
 | int i t=>exact slicePart_int h
def wH {sl:L6} {vl vu:K'} {lo hi:Hl Int} {n:Nat} {Q:Int×Int×Nat->L5->Prop} (hs:s.heap.IsSliceOf sl vl vu .none) (pl:IsPart vl lo) (pu:IsPart vu hi)
   (h:Q (((sIx n 0 lo:Nat):Int),1,sIx n n hi - sIx n 0 lo) s):wpAny 0x3 A (Builtin.Slice.sliceApplied ↥sl (pure (n:Int))) Q E s:=by
 let#[os,hos,hcs,hds]:=id hs;unfold Builtin.Slice.sliceApplied Builtin.Slice.sliceFields;refine HR (HR (IR hos hds (x:=vl) rfl (HR (IR hos hds (x:=vu) rfl (HR (IR hos hds (x:=.none) rfl (Ha ?_)))))));refine HR (slicePart_none ?_);show wpAny _ _ (if((1:Int)==0)=true then _ else _) _ _ s;rw[HX #[]];refine HR (uT pl (HR (uT pu (HR (Ha ?_)))));show wpAny _ _ (match Builtin.Slice.sliceAdjust lo hi 1 (n:Int) with|(lo,hi)=>pure (lo,(1:Int),Builtin.Slice.slicePlaces lo hi 1)) _ _ s;rw[EU lo hi n];show wpAny _ _ (pure (((sIx n 0 lo:Nat):Int),(1:Int),Builtin.Slice.slicePlaces ((sIx n 0 lo:Nat):Int) ((sIx n n hi:Nat):Int) 1)) _ _ s;rw[FG];exact Ha h
def CU (xs:Array K') (i k:Nat):((List.range k).filterMap λ(m:Nat)=>xs[((i:Int)+(m:Int) * 1).toNat]?).toArray=((xs.toList.drop i).take k).toArray:=by
 have e:(λ(m:Nat)=>xs[((i:Int)+(m:Int) * 1).toNat]?)=λm=>xs[i+m]?:=by
   funext m;have:((i:Int)+(m:Int) * 1).toNat=i+m:=by lia
   rw[this]
 rw[e];have:=pick_run xs i k;rw[List.filterMap_map] at this;have e2:((λx=>xs[x]?) ∘ λx=>i+x)=λm=>xs[i+m]?:=rfl;rw[e2] at this;rw[this]
def getItem_tuple_cut {t sl:L6} {items:Array K'} {vl vu:K'} {lo hi:Hl Int} {Q:K'->L5->Prop} (ht:IsTup s.heap t items) (hs:s.heap.IsSliceOf sl vl vu .none) (pl:IsPart vl lo) (pu:IsPart vu hi)
   (hw:¬ (sIx items.size 0 lo=0/\sIx items.size items.size hi=items.size))
   (h:Q ↥s.heap.objs.size { s with heap:=s.heap.push { cls:=.type "tuple",data:=.seq ((items.toList.drop (sIx items.size 0 lo)).take (sIx items.size items.size hi - sIx items.size 0 lo)).toArray } })
   (hsz:items.size<=sizeLine):wpAny 0x3 A (getItem ↥t ↥sl) Q E s:=by
 have htake:sizeOk (.seq ((items.toList.drop (sIx items.size 0 lo)).take (sIx items.size items.size hi - sIx items.size 0 lo)).toArray):=by
   show((items.toList.drop (sIx items.size 0 lo)).take (sIx items.size items.size hi - sIx items.size 0 lo)).toArray.size<=sizeLine;rw[Hn,IE,J5,KP]
   lia
 have hj:sIx items.size items.size hi<=items.size:=FY _ _ (HY _) hi;let#[os,hos,hcs,hds]:=id hs;have hTs:s.TypeIs ↥sl "slice":=#[os,hos,hcs]
 unfold getItem
 try with_reducible refine IW ?_
 first|refine HR (Ha ?_)|skip
 refine HR (Kf ht.typeIs #[] ?_);refine HR (wpAny_callSpecial?_slot (name:=Str.ofString "__getitem__") ht.typeIs Im
   (Ix Im ht.typeIs entry_tuple_getitem ?_ (args_tuple_getitem _ _)))
 show wpAny _ _ (Builtin.Tuple.tupleItemsOf ↥t >>= _) _ _ s;refine HR (tupleItemsOf_ ht ?_);refine HR (Jl hTs ?_);rw[He #[]];refine HR (wH hs pl pu ?_);have hno:¬ ((((sIx items.size 0 lo:Nat):Int)==0&&(1:Int)==1&&(sIx items.size items.size hi - sIx items.size 0 lo)==items.size)=true):=by intro q;rw[IN,IN] at q;have q1:((sIx items.size 0 lo:Nat):Int)=0:=eq_of_beq q.1.1;have q2:sIx items.size items.size hi - sIx items.size 0 lo=items.size:=eq_of_beq q.2;exact hw #[∅,∅]
 show wpAny _ _ (if(((sIx items.size 0 lo:Nat):Int)==0&&(1:Int)==1&&(sIx items.size items.size hi - sIx items.size 0 lo)==items.size)=true then _ else _) _ _ s;rw[HX hno,CU]
 first
   | exact HR (m:=Builtin.Tuple.tupleExact _) (J1 (Ha ⟨_,rfl,Ha h⟩) htake)
   | exact HR (m:=Builtin.Tuple.tupleExact _) (J1 (HR (Ha (Ha ⟨_,rfl,Ha h⟩))) htake)
   | exact HR (HR (m:=Builtin.Tuple.tupleExact _) (J1 (Ha (Ha ⟨_,rfl,Ha h⟩)) htake))
   | exact HR (HR (m:=Builtin.Tuple.tupleExact _) (J1 (Ha ⟨_,rfl,Ha h⟩) htake))
end
end HT
namespace L2
open PySem PySem.Spec PyProof.Rows
noncomputable abbrev TO:=St->Hp->(Hl Int->Hp->Prop)->Prop
abbrev PO (X:Cx) (e:Hl Expr) (t:TO):Prop :=
 ∀(pins:List (L6×Obj)) (s:L5) (σ:St) (H:Hp) (Q:Hl Int->Hp->Prop),Inv X pins σ H s->t σ H Q ->
   wpAny 0x2 X.A (evalPart e X.env) (λu s'=>∃o H',Inv X pins σ H' s'/\IsPart u o/\Q o H') X.xe s
abbrev GY:TO:=λ_ H Q=>Q none H
abbrev zc (t:TE):TO:=λσ H Q=>t σ H λx H1=>∃i,x=.int i/\Q ⇑i H1
section
variable {X:Cx} {e:Expr} {te:TE} {lo hi:Hl Expr} {tl th:TO} {pos p2:Pos}
def eZ:PO X none GY:=by intro pins s σ H Q I h;rw[evalPart_none];exact Ha #[none,H,I,.none,h]
def dk (h:PE X e te):PO X ⇑e (zc te):=by intro pins s σ H Q I hw;rw[evalPart_some];refine aQ (h pins s σ H _ I hw) λu s1 z84_=>?_;let#[x,H1,I1,r1,q1]:=z84_;let#[i,rfl,q]:=q1;let#[t,rfl]:=r1;show#[⇑i,H1,I1,.int i t,q]
abbrev fq (X:Cx) (r:V->Hl Int->Hl Int->Hp->VK->Prop):Prop :=
 ∀(pins:List (L6×Obj)) (s:L5) (σ:St) (H:Hp) (x:V) (v vl vu:K') (lo hi:Hl Int) (sl:L6) (Q:VK),Inv X pins σ H s->aX x v->s.heap.IsSliceOf sl vl vu .none->IsPart vl lo->IsPart vu hi->r x lo hi H Q ->
   ∃T id,typeLookup (.type T) "__getitem__"=pure ⇑(.builtin id)/\s.TypeIs v T/\wpAny 0x2 X.A (getItem v ↥sl) (EP X pins σ Q) X.xe s
def fq.or {r r':V->Hl Int->Hl Int->Hp->VK->Prop} (h:fq X r) (h':fq X r'):fq X (λx lo hi H Q=>r x lo hi H Q\/r' x lo hi H Q):=by
 intro pins s σ H x v vl vu lo hi sl Q I rx hs pl pu q;rcases q with q|q
 . exact h pins s σ H x v vl vu lo hi sl Q I rx hs pl pu q
 . exact h' pins s σ H x v vl vu lo hi sl Q I rx hs pl pu q
abbrev tSl (r:V->Hl Int->Hl Int->Hp->VK->Prop) (te:TE) (tl th:TO):TE:=λσ H Q=>te σ H λx H1=>tl σ H1 λl H2=>th σ H2 λu H3=>r x l u H3 Q
def eM {r:V->Hl Int->Hl Int->Hp->VK->Prop} (hr:fq X r) (he:PE X e te) (hl:PO X lo tl) (hu:PO X hi th):PE X (.Subscript e (.Slice lo hi none p2) pos) (tSl r te tl th):=by intro pins s σ H Q I h;refine Subscript_ (aQ (he pins s σ H _ I h) λv s1 z85_=>?_);let#[x,H1,I1,r1,q1]:=z85_;refine wpAny_Slice (aQ (hl pins s1 σ H1 _ I1 q1) λvl s2 ⟨l,H2,I2,pl,q2⟩=>aQ (hu pins s2 σ H2 _ I2 q2) λvu s3 z87_=>?_);let#[u,H3,I3,pu,q3]:=z87_;rw[evalPart_none];refine Ha ?_;have I4:Inv X pins σ H3 { s3 with heap:=s3.heap.push { cls:=.type "slice",data:=.fields (List.toArray [vl,vu,.none]) } }:=I3.kept (t':=s3.toks) λb ob q=>HW _ q;let#[T,id,hT,ht,hg]:=hr pins { s3 with heap:=s3.heap.push { cls:=.type "slice",data:=.fields (List.toArray [vl,vu,.none]) } } σ H3 x v vl vu l u s3.heap.objs.size Q I4 r1 (Heap.IsSliceOf.new ..) pl pu q3;show wpAny 0x2 X.A (subscriptTail e (.Slice lo hi none p2) v ↥s3.heap.objs.size) (EP X pins σ Q) X.xe { s3 with heap:=s3.heap.push { cls:=.type "slice",data:=.fields (List.toArray [vl,vu,.none]) } };exact tail_any (ops:=[↥s3.heap.objs.size,v]) ht hT hg (by with_unfolding_all rfl)
abbrev dH (xs:List V) (lo hi:Hl Int):List V:=(xs.drop (HT.sIx xs.length 0 lo)).take (HT.sIx xs.length xs.length hi - HT.sIx xs.length 0 lo)
def tX (xs:List V) (lo hi:Hl Int):(dH xs lo hi).length<=xs.length:=by
 unfold dH;rw[IE,J5]
 lia
abbrev tK (K:L7):V->Hl Int->Hl Int->Hp->VK->Prop:=λx lo hi H Q=>∃a xs,x=↥a/\aG K H a xs /\
 ¬ (HT.sIx xs.length 0 lo=0/\HT.sIx xs.length xs.length hi=xs.length)/\∀p,H p=none->Q ↥p (upd H p (.tup (dH xs lo hi)))
def Dz:fq X (tK X.K):=by
 intro pins s σ H x v vl vu lo hi sl Q I rx hs pl pu h;let#[a,xs,rfl,hx,hw,q]:=h;cases rx;let#[its,r,ht,hz]:=I.tuple hx;have hlen:its.toArray.size=xs.length:=by rw[Hn]; exact r.length.symm
 show#["tuple",_,Im.lookup,ht.typeIs,?_];refine HT.getItem_tuple_cut ht hs pl pu (by rw[hlen]; exact hw) ?_ (by rw[hlen]; exact hz);rw[hlen];show#[↥s.heap.objs.size,_,I.laid (t':=s.toks) (o:=.tup (dH xs lo hi)) (λb ob q=>HW _ q) (HY _) ?_,rfl,q _ (I.hok.fresh (HY _))];show#[Hu (tX xs lo hi) hz,_,(r.drop (HT.sIx xs.length 0 lo)).take (HT.sIx xs.length xs.length hi - HT.sIx xs.length 0 lo),IsTup.new _ _]
end
abbrev cX (n:Nat) (i:Int):Hl Nat:=if 0<=i then(if i<n then ⇑i.toNat else none) else if -(n:Int)<=i then ⇑(i+n).toNat else none
abbrev am {α:Type} (xs:List α) (i:Int):Hl α:=(cX xs.length i).bind λj=>xs[j]?
variable {n:Nat}
def tF {i:Int} {j:Nat} (h:cX n i=⇑j):seqIndex? i n=⇑j/\j<n/\-(n:Int)<=i/\i<n:=by
 unfold cX at h;by_cases h0:0<=i
 . rw[He h0] at h;by_cases h1:i<n
   . rw[He h1] at h;have e:i.toNat=j:=Option.some.inj h;show#[by rw[seqIndex_of h0 h1,e],∅,∅,h1]
   . rw[HX h1] at h; cases h
 . rw[HX h0] at h;by_cases h1:-(n:Int)<=i
   . rw[He h1] at h;have e:(i+n).toNat=j:=Option.some.inj h;show#[by rw[seqIndex_neg ∅ h1,e],∅,h1,∅]
   . rw[HX h1] at h; cases h
def pq {α:Type} {xs:List α} {i:Int} {v:α} (h:am xs i=⇑v):∃j,seqIndex? i xs.length=⇑j/\xs[j]?=⇑v/\j<xs.length/\-(xs.length:Int)<=i/\i<xs.length:=by
 unfold am at h;cases e:cX xs.length i with
 | none=>rw[e] at h; cases h
 | some j =>
   rw[e] at h;let#[h1,h2,h3,h4]:=tF e;show#[j,h1,h,h2,h3,h4]
def bp {α:Type} {xs:List α} {j:Nat} {v:α} (h:xs[j]?=⇑v):am xs (j:Int)=⇑v:=by
 have hj:j<xs.length:=(HV.mp h).1;have e:cX xs.length (j:Int)=⇑j:=by unfold cX;rw[He ∅,He ∅]; simp
 unfold am; rw[e]; exact h
def pP {α:Type} (xs:List α) (v:α):am (xs++[v]) (-1)=⇑v:=by
 have hl:(xs++[v]).length=xs.length+1:=by simp
 have e:cX (xs++[v]).length (-1)=⇑xs.length:=by
   unfold cX;rw[hl,HX #[],He ∅];congr 1
   lia
 unfold am;rw[e];show(xs++[v])[xs.length]?=⇑v;simp
abbrev pU (b:Expr):Prop:=∀o i,subscripted b false o i=operate [o,i] (getItem o i)
abbrev et (X:Cx) (r:R2):Prop :=
 ∀(value slice:Expr) (pins:List (L6×Obj)) (s:L5) (σ:St) (H:Hp) (x y:V) (v u:K') (Q:VK),Inv X pins σ H s->aX x v->aX y u->r x y H Q ->
   subscripted slice false v u=operate [v,u] (getItem v u)->wpAny 0x2 X.A (subscriptTail value slice v u) (EP X pins σ Q) X.xe s
abbrev nZ (X:Cx) (id:String) (r:V->List V->Hp->VK->Prop):Prop :=
 ∀(pins:List (L6×Obj)) (s:L5) (σ:St) (H:Hp) (x:V) (xs:List V) (v:K') (us:List K') (Q:VK),Inv X pins σ H s->aX x v->aU xs us->r x xs H Q ->
   wpAny 0x2 X.A (call (.builtin id) (v::us)) (EP X pins σ Q) X.xe s
variable {x:V}
section
variable {X:Cx} {a b:Expr} {ta tb:TE} {pos:Pos}
def cB {r:R2} (hr:et X r) (ha:PE X a ta) (hb:PE X b tb) (hs:pU b):PE X (.Subscript a b pos) (gK r ta tb):=by intro pins s σ H Q I h;exact Subscript_ (qd ha hb I h λv u s2 x y H2 I2 rx ry q=>hr a b pins s2 σ H2 x y v u Q I2 rx ry q (hs _ _))
abbrev BC (K:L7):R2:=λx y H Q=>∃p xs i v,x=↥p/\y=.int i/\aE K H p xs/\am xs i=⇑v/\Q v H
abbrev nq (K:L7):R2:=λx y H Q=>∃p xs i v,x=↥p/\y=.int i/\aG K H p xs/\am xs i=⇑v/\Q v H
abbrev Gd:R2:=λx y H Q=>∃z i c,x=.str z/\y=.int i/\z.length<=sizeLine/\am z.cps.toList i=⇑c/\Q (.str #[(List.toArray [c])]) H
def gg:et X (BC X.K):=by
 intro value slice pins s σ H x y v u Q I rx ry h hs;let#[p,xs,i,z,rfl,rfl,hq,he,q]:=h;cases rx;let#[t,rfl]:=ry;let#[its,r,pl,hz]:=I.list hq;let#[j,h1,h2,h3,h4,h5]:=pq he;let#[w,ew,rw']:=r.get h2;have hl:=r.length;have hn:=j9;have fin:EP X pins σ Q w s:=#[z,H,I,rw',q]
 by_cases h0:0<=i
 . have hj:i.toNat=j:=by rw[seqIndex_of h0 h5] at h1;exact Option.some.inj h1
   exact item_listR pl.isList h0 ∅ (by rw[hj]; simpa using ew) fin hs
 . have hj:(i+(its.toArray.size:Int)).toNat=j:=by rw[seqIndex_neg ∅ h4] at h1;rw[Hn,<- hl];exact Option.some.inj h1
   exact subscriptTail_builtinR (x:=w) pl.isList.typeIs slot_list_getitem.lookup
     (wpAny_getItem_list_neg (Q:=λr s'=>r=w/\EP X pins σ Q r s') pl.isList ∅ (by rw[Hn] <;> lia) ∅ (by rw[hj]; simpa using ew) #[rfl,fin]) hs
def fH:et X (nq X.K):=by
 intro value slice pins s σ H x y v u Q I rx ry h hs;let#[p,xs,i,z,rfl,rfl,hq,he,q]:=h;cases rx;let#[t,rfl]:=ry;let#[its,r,pl,hz]:=I.tuple hq;let#[j,h1,h2,h3,h4,h5]:=pq he;let#[w,ew,rw']:=r.get h2;have hl:=r.length;have hn:=j9;have fin:EP X pins σ Q w s:=#[z,H,I,rw',q]
 exact subscriptTail_builtinR (x:=w) pl.typeIs slot_tuple_getitem.lookup
   (getItem_tuple (j:=j) (Q:=λr s'=>r=w/\EP X pins σ Q r s') pl ∅ ∅ (by rw[Hn,<- hl]; exact h1) ↑ew #[rfl,fin]) hs
def pz:et X Gd:=by
 intro value slice pins s σ H x y v u Q I rx ry h hs;let#[z,i,c,rfl,rfl,hz,he,q]:=h;let#[t,rfl]:=rx;let#[t',rfl]:=ry;let#[j,h1,h2,h3,h4,h5]:=pq he;have hl:z.cps.toList.length=z.length:=by simp [Str.length]
 rw[hl] at h1 h4 h5;have hn:=j9;exact tail_any (typeIs_str s z t) slot_str_getitem.lookup (getItem_str (c:=c) (by have e1:decide (i < -(2 ^ 63:Int))=false:=IU ∅;have e2:decide (i>=2 ^ 63)=false:=IU ∅;rw[e1,e2,Ky]) (by rw[h1]; simpa using h2) #[.str #[(List.toArray [c])],H,I.tok _,#[5],q]) hs
def Am (its:List K') (n j:Nat) (u:K'):Obj.mapSeq (·.setIfInBounds j u) { cls:=.type "list",data:=.seq its.toArray n }={ cls:=.type "list",data:=.seq (its.set j u).toArray n }:=by simp [Obj.mapSeq]
def Inv.lst {pins:List (L6×Obj)} {σ:St} {H:Hp} {s:L5} {p:L6} {xs:List V} (I:Inv X pins σ H s) (h:H p=⇑(.lst xs)) :
   ∃(its:List K') (n:Nat),aU xs its/\s.heap.get? p=some { cls:=.type "list",data:=.seq its.toArray n }/\xs.length<=sizeLine:=by
 let#[z,its,n,r,e]:=I.hok p _ h;show#[its,n,r,e,z]
def Inv.lstUpd {pins:List (L6×Obj)} {σ:St} {H:Hp} {s:L5} {p:L6} {xs ys:List V} {its its':List K'} {n':Nat}{f:Obj->Obj} (I:Inv X pins σ H s) (h:H p=⇑(.lst xs))
   (ho:s.heap.get? p=some { cls:=.type "list",data:=.seq its.toArray n }) (hf:f { cls:=.type "list",data:=.seq its.toArray n }={ cls:=.type "list",data:=.seq its'.toArray n' }) (r:aU ys its') (hz:ys.length<=sizeLine) (t:Nat) :
   Inv X pins σ (upd H p (.lst ys)) { s with heap:=s.heap.update p f,toks:=t }:=by
 have e:(s.heap.update p f).get? p=some { cls:=.type "list",data:=.seq its'.toArray n' }:=by rw[J8 f ho (by rw[hf] <;> rfl),hf]
 refine I.write (x:=p) (e:=p) (by rw[h]; trivial) (.inl rfl) (λb u hb q=>(Ip _ _ (Ne.symm hb))\q) #[_,e] ?_;show#[hz,its',n',r,e]
abbrev EK:V->V->V->Hp->(Hp->Prop)->Prop:=λo i v H Q=>∃p xs k j,o=↥p/\i=.int k/\H p=⇑(.lst xs)/\cX xs.length k=⇑j/\Q (upd H p (.lst (xs.set j v)))
def jv:uh X EK:=by
 intro pins s σ H o i v ov iv u Q I ro ri rv h;let#[p,xs,k,j,rfl,rfl,hp,hj,q]:=h;cases ro;let#[t,rfl]:=ri;let#[its,n,r,ho,hz]:=I.lst hp;let#[h1,h2,h3,h4]:=tF hj;have hl:=r.length;have hn:=j9;have I':Inv X pins σ (upd H p (.lst (xs.set j v))) { s with heap:=s.heap.update p (Obj.mapSeq (·.setIfInBounds j u)) } :=
   I.lstUpd hp ho (Am its n j u) (r.set rv j) (by rw[Je]; exact hz) s.toks
 by_cases h0:0<=k
 . have hk:k.toNat=j:=by rw[seqIndex_of h0 h4] at h1;exact Option.some.inj h1
   exact PySem.W.ki_setAt ho h0 ∅ (by rw[Hn,<- hl]; exact h4) (by rw[hk]; show#[_,I',q])
 . have hk:(k+(its.toArray.size:Int)).toNat=j:=by rw[seqIndex_neg ∅ h3] at h1;rw[Hn,<- hl];exact Option.some.inj h1
   exact PySem.W.ki_setBack ho ∅ (by rw[Hn,<- hl]; exact h3) ∅ (by rw[hk]; show#[_,I',q])
def Et (lo hi:Hl Int) (n:Nat):(sliceBounds lo hi none n).1=((HT.sIx n 0 lo:Nat):Int)/\(sliceBounds lo hi none n).2.1=((HT.sIx n n hi:Nat):Int)/\(sliceBounds lo hi none n).2.2=1:=by
 show#[?_,?_,rfl]
 . cases lo with
   | none=>simp [sliceBounds,HT.sIx]
   | some i =>
     simp only[sliceBounds,HT.sIx,Option.getD_none,show(1:Int) > 0 by decide,if_true];by_cases h:i<0
     . simp only[h,if_true] <;> lia
     . simp only[h,if_false] <;> lia
 . cases hi with
   | none=>simp [sliceBounds,HT.sIx]
   | some i =>
     simp only[sliceBounds,HT.sIx,Option.getD_none,show(1:Int) > 0 by decide,if_true];by_cases h:i<0
     . simp only[h,if_true] <;> lia
     . simp only[h,if_false] <;> lia
def CJ (its:List K') (lo hi:Hl Int):slicePick its.toArray lo hi none=((its.drop (HT.sIx its.length 0 lo)).take (HT.sIx its.length its.length hi - HT.sIx its.length 0 lo)).toArray:=by let#[h1,h2,h3]:=Et lo hi its.toArray.size;unfold slicePick;rw[h1,h2,h3];simp only[sliceRange_one,pick_run,Hn] <;> rfl
abbrev E8 (K:L7):V->Hl Int->Hl Int->Hp->VK->Prop:=λx lo hi H Q=>∃a xs,x=↥a/\aE K H a xs/\∀p,H p=none->Q ↥p (upd H p (.lst (dH xs lo hi)))
def hJ:fq X (E8 X.K):=by intro pins s σ H x v vl vu lo hi sl Q I rx hs pl pu h;let#[a,xs,rfl,hx,q]:=h;cases rx;let#[its,r,ht,hz]:=I.list hx;have hlen:=r.length;show#["list",_,slot_list_getitem.lookup,ht.isList.typeIs,?_];refine wpAny_getItem_list_slice ht.isList hs pl pu .none 0x6 ?_ (by rw[Hn] <;> lia);rw[CJ,<- hlen];show#[↥s.heap.objs.size,_,I.laid (t':=s.toks) (o:=.lst (dH xs lo hi)) (λb ob q=>HW _ q) (HY _) ?_,rfl,q _ (I.hok.fresh (HY _))];show#[Hu (tX xs lo hi) hz,_,(0),(r.drop (HT.sIx xs.length 0 lo)).take (HT.sIx xs.length xs.length hi - HT.sIx xs.length 0 lo),Hs _ rfl]
abbrev eC:V->Bool
 | .non=>true
 | .bl _=>true
 | .int _=>true
 | .str _=>true
 | _=>false
abbrev dQ:V->V->Bool
 | .non,.non=>true
 | .bl a,.bl b=>a==b
 | .bl a,.int b=>(if a then 1 else 0)==b
 | .int a,.bl b=>a==(if b then 1 else 0)
 | .int a,.int b=>a==b
 | .str a,.str b=>a==b
 | _,_=>false
def Gh {A:Around} {s:L5} {y:V}{u v:K'} (ry:aX y u) (rx:aX x v) (fy:eC y=true) (fx:eC x=true):SeqAt.EqAt A s u v (dQ y x):=by
 cases y with
 | non =>
   cases ry;cases x with
   | non=>cases rx; exact SeqAt.EqAt.same _
   | bl b=>cases rx; exact SeqAt.EqAt.none_bool b
   | int b=>let#[t,rfl]:=rx; exact SeqAt.EqAt.none_int b t
   | str b=>let#[t,rfl]:=rx; exact SeqAt.EqAt.none_str b t
   | _=>exact absurd (show false=true from fx) Ho
 | bl a =>
   cases ry;cases x with
   | non=>cases rx; exact SeqAt.EqAt.bool_none a
   | bl b=>cases rx; exact SeqAt.EqAt.bool_bool a b
   | int b=>let#[t,rfl]:=rx; exact SeqAt.EqAt.bool_int a b t
   | str b=>let#[t,rfl]:=rx; exact SeqAt.EqAt.bool_str a b t
   | _=>exact absurd (show false=true from fx) Ho
 | int a =>
   let#[t',rfl]:=ry;cases x with
   | non=>cases rx; exact SeqAt.EqAt.int_none a t'
   | bl b=>cases rx; exact SeqAt.EqAt.int_bool a t' b
   | int b=>let#[t,rfl]:=rx; exact SeqAt.EqAt.int_int a t' b t
   | str b=>let#[t,rfl]:=rx; exact SeqAt.EqAt.int_str a t' b t
   | _=>exact absurd (show false=true from fx) Ho
 | str a =>
   let#[t',rfl]:=ry;cases x with
   | non=>cases rx; exact SeqAt.EqAt.str_none a t'
   | bl b=>cases rx; exact SeqAt.EqAt.str_bool a t' b
   | int b=>let#[t,rfl]:=rx; exact SeqAt.EqAt.str_int a t' b t
   | str b=>let#[t,rfl]:=rx; exact SeqAt.EqAt.str_str a t' b t
   | _=>exact absurd (show false=true from fx) Ho
 | _=>exact absurd (show false=true from fy) Ho
abbrev d8 (x:V) (u:K'):Bool:=match u with
 | .none=>dQ .non x
 | .bool b=>dQ (.bl b) x
 | .int i _=>dQ (.int i) x
 | .str z _=>dQ (.str z) x
 | _=>false
def pK {y:V}{u:K'} (r:aX y u) (f:eC y=true):d8 x u=dQ y x:=by
 cases y with
 | non=>cases r; rfl
 | bl b=>cases r; rfl
 | int i=>let#[t,rfl]:=r; rfl
 | str z=>let#[t,rfl]:=r; rfl
 | _=>exact absurd (show false=true from f) Ho
def nF :∀{xs:List V} {us:List K'},aU xs us->xs.all eC=true->us.any (d8 x)=xs.any λy=>dQ y x:=by
 intro xs us h f
 induction h with
 | nil=>rfl
 | cons r t ih =>
   rw[List.all_cons,IN] at f;rw[K6,K6,pK r f.1,ih f.2]
def kY {A:Around} {s:L5} {v:K'} (rx:aX x v) (fx:eC x=true):∀{xs:List V} {us:List K'},aU xs us->xs.all eC=true->∀u∈us,SeqAt.EqAt A s u v (d8 x u):=by
 intro xs us h f
 induction h with
 | nil=>intro u hu; cases hu
 | cons r t ih =>
   intro u' hu;rw[List.all_cons,IN] at f;rcases Hh.mp hu with rfl|hu
   . rw[pK r f.1]; exact Gh r rx f.1 fx
   . exact ih f.2 u' hu
abbrev eP (x:V) (xs:List V):Bool:=xs.any λy=>dQ y x
abbrev rIn (K:L7) (neg:Bool):R2:=λx y H Q=>∃p xs,y=↥p/\(aE K H p xs\/aG K H p xs)/\eC x=true/\xs.all eC=true/\Q (.bl (if neg then !eP x xs else eP x xs)) H
def kL:bP X (compareOp .In) (rIn X.K false):=by
 intro pins s σ H x y v u Q I rx ry h;let#[p,xs,rfl,hq,fx,fs,q]:=h;cases ry;rcases hq with hq|hq
 . let#[its,r,pl,hz]:=I.list hq;refine SeqAt.in_listAt (d8 x) pl.isList (λw hw=>kY rx fx r fs w ↑hw) #[.bl _,H,I,rfl,?_];rw[show its.toArray.any (d8 x)=its.any (d8 x) by simp,nF r fs];exact q
 . let#[its,r,pl,hz]:=I.tuple hq;refine SeqAt.in_tupleAt (d8 x) pl (λw hw=>kY rx fx r fs w ↑hw) #[.bl _,H,I,rfl,?_];rw[show its.toArray.any (d8 x)=its.any (d8 x) by simp,nF r fs];exact q
def vY:bP X (compareOp .NotIn) (rIn X.K true):=by
 intro pins s σ H x y v u Q I rx ry h;let#[p,xs,rfl,hq,fx,fs,q]:=h;cases ry;rcases hq with hq|hq
 . let#[its,r,pl,hz]:=I.list hq;refine SeqAt.notIn_listAt (d8 x) pl.isList (λw hw=>kY rx fx r fs w ↑hw) #[.bl _,H,I,rfl,?_];rw[show its.toArray.any (d8 x)=its.any (d8 x) by simp,nF r fs];exact q
 . let#[its,r,pl,hz]:=I.tuple hq;refine SeqAt.notIn_tupleAt (d8 x) pl (λw hw=>kY rx fx r fs w ↑hw) #[.bl _,H,I,rfl,?_];rw[show its.toArray.any (d8 x)=its.any (d8 x) by simp,nF r fs];exact q
def j4:ao X (.builtin "len") (λxs H Q=>∃p ys,xs=[↥p]/\(aE X.K H p ys\/aG X.K H p ys)/\Q (.int ys.length) H):=by
 intro pins s σ H xs us Q I r h;let#[p,ys,rfl,hq,q]:=h;let#[u,rfl,rx]:=gP r;cases rx;have hn:=j9;rcases hq with hq|hq
 . let#[its,r',pl,hz]:=I.list hq;have hlen:=r'.length;exact Calls.call_len_list pl.isList (by simp only[Hn] <;> lia) #[.int ys.length,H,I.tok _,#[s.toks+1,by rw[Hn,hlen]],q]
 . let#[its,r',pl,hz]:=I.tuple hq;have hlen:=r'.length;exact len_tuple pl (by simp only[Hn] <;> lia) #[.int ys.length,H,I.tok _,#[s.toks+1,by rw[Hn,hlen]],q]
def qT:ao X (.type "list") (λxs H Q=>∃p ys,xs=[↥p]/\(aE X.K H p ys\/aG X.K H p ys)/\∀l,H l=none->Q ↥l (upd H l (.lst ys))):=by
 intro pins s σ H xs us Q I r h;let#[p,ys,rfl,hq,q]:=h;let#[u,rfl,rx]:=gP r;cases rx;have fin:∀(its:List K'),aU ys its->ys.length<=sizeLine->∀(h':Heap) (c':Nat),(∀b o',s.heap.get? b=⇑o'->h'.get? b=⇑o') ->
     h'.get? s.heap.objs.size=some { cls:=.type "list",dict:=none,data:=.seq its.toArray c',slots:=0xA }->EP X pins σ Q ↥s.heap.objs.size { s with heap:=h' }:=λits r' hz h' c' kp e =>
   #[↥s.heap.objs.size,_,I.laid (t':=s.toks) kp (HY _) (show bT X.prog X.w _ h' _ (.lst ys) from#[hz,its,c',r',e]),rfl,q _ (I.hok.fresh (HY _))]
 rcases hq with hq|hq
 . let#[its,r',pl,hz]:=I.list hq;have hlen:=r'.length;let#[o,ho,hc,n,hd]:=pl.isList;exact call_list_seq p (.inl rfl) ho hc hd (λh' c' kp e=>fin its r' hz h' c' kp e) (by simp only[Hn] <;> lia)
 . let#[its,r',pl,hz]:=I.tuple hq;have hlen:=r'.length;let#[o,ho,hc,n,hd]:=pl;exact call_list_seq p (.inr rfl) ho hc hd (λh' c' kp e=>fin its r' hz h' c' kp e) (by simp only[Hn] <;> lia)
def jB:ao X (.type "tuple") (λxs H Q=>∃p ys,xs=[↥p]/\((aE X.K H p ys/\∀l,H l=none->Q ↥l (upd H l (.tup ys)))\/(aG X.K H p ys/\Q ↥p H))):=by
 intro pins s σ H xs us Q I r h;let#[p,ys,rfl,h]:=h;let#[u,rfl,rx]:=gP r;cases rx;rcases h with⟨hq,q⟩|⟨hq,q⟩
 . let#[its,r',pl,hz]:=I.list hq;have hlen:=r'.length;refine call_tuple_list pl.isList (λh' kp=>?_) (by simp only[Hn] <;> lia);have I1:Inv X pins σ H { s with heap:=h' }:=I.kept (t':=s.toks) kp;have I2:Inv X pins σ (upd H h'.objs.size (.tup ys)) { s with heap:=h'.push { cls:=.type "tuple",data:=.seq its.toArray } } :=
     I1.laid (t':=s.toks) (λb o e=>HW _ e) (HY _) (show bT X.prog X.w _ _ _ (.tup ys) from#[hz,its,r',IsTup.new _ _])
   show#[↥h'.objs.size,_,I2,rfl,q _ (I1.hok.fresh (HY _))]
 . let#[its,r',pl,hz]:=I.tuple hq;exact call_tuple_same pl #[↥p,H,I,rfl,q]
abbrev rA (K:L7) (T:String) (x:V) (H:Hp):Prop:=match x with
 | .str _=>T="str"
 | .int _=>T="int"
 | .ref p=>(T="list"/\∃xs,aE K H p xs)\/(T="tuple"/\∃o,K.lookup p=⇑o/\o.cls=.type "tuple"/\o.dict=none) \/
     (T="dict"/\((∃kvs,H p=⇑(.dK kvs))\/∃kvs,H p=⇑(.dT kvs)))\/(T="set"/\∃S n,H p=⇑(.set S n))
 | _=>False
def wB {pins:List (L6×Obj)} {σ:St} {H:Hp} {s:L5} {T:String} {v:K'} (I:Inv X pins σ H s) (r:aX x v) (ty:rA X.K T x H) :
   s.TypeIs v T/\∀a,v=↥a->∃ob,s.heap.get? a=⇑ob/\ob.dict=none:=by
 cases x with
 | str z =>
   let#[t,rfl]:=r;cases (show T="str" from ty);show#[typeIs_str s z t,λ_ e=>nomatch e]
 | int i =>
   let#[t,rfl]:=r;cases (show T="int" from ty);show#[typeIs_int s i t,λ_ e=>nomatch e]
 | ref p =>
   cases r;rcases ty with⟨rfl,xs,hq⟩|⟨rfl,o,hk,hc,hd⟩|⟨rfl,hk⟩|⟨rfl,S,n,hk⟩
   . let#[its,_,pl,_]:=I.list hq;show#[pl.isList.typeIs,λa e=>?_];cases e;let#[o,n,e,c,hd,_]:=pl;show#[o,e,hd]
   . show#[#[o,I.kIn p o hk,hc],λa e=>?_];cases e;show#[o,I.kIn _ o hk,hd]
   . have z:∃o,s.heap.get? p=⇑o/\o.ExactDict:=by
       rcases hk with⟨kvs,hk⟩|⟨kvs,hk⟩
       . let#[_,_,_,_,o,_,_,e,ex,_]:=I.hok p _ hk;show#[o,e,ex]
       . let#[_,_,_,_,o,_,_,e,ex,_]:=I.hok p _ hk;show#[o,e,ex]
     let#[o,e,ex]:=z;show#[#[o,e,ex.1],λa e2=>?_];cases e2;show#[o,e,ex.2.1]
   . let#[o,_,_,_,e,ex,_]:=I.hok p _ hk;show#[#[o,e,ex.1],λa e2=>?_];cases e2;show#[o,e,ex.2.1]
 | _=>exact False.elim ty
abbrev zv (K:L7) (T:String) (r:V->List V->Hp->VK->Prop) (to:TE):TE:=λσ H Q=>to σ H λx H1=>rA K T x H1/\r x [] H1 Q
abbrev tBM (K:L7) (T:String) (r:V->List V->Hp->VK->Prop) (to:TE) (t:TA):TE:=λσ H Q=>to σ H λx H1=>rA K T x H1/\t σ H1 λxs H2=>r x xs H2 Q
variable {o e:Expr} {es:List Expr} {to:TE} {t:TA} {name:Str} {apos cpos:Pos} {T id:String} {r:V->List V->Hp->VK->Prop}
def pJ (pa:PlainAttrs T) (slot:Slot T name id) (hty:typeOf (.builtin id)=pure (.type "method_descriptor")) (hm:nZ X id r) (ho:PE X o to)
   (hbase:attributeBase o name X.env (eval o X.env)=eval o X.env:=by rfl) (hline:(apos.endLine==cpos.line)=true:=by rfl):PE X (.Call (.Attribute o name apos) [] [] cpos) (zv X.K T r to):=by
 intro pins s σ H Q I h;refine Ko hbase hline (aQ (ho pins s σ H _ I h) λv s1 z88_=>?_);let#[x,H1,I1,r1,ty,q1]:=z88_;let#[h1,h2]:=wB I1 r1 ty;show#[T,id,pa,slot,hty,h1,h2,Calls.callWith_builtin rfl (PySem.evalArgs_none (hm pins s1 σ H1 x [] v [] Q I1 r1 .nil q1))]
def cQ (pa:PlainAttrs T) (slot:Slot T name id) (hty:typeOf (.builtin id)=pure (.type "method_descriptor")) (hm:nZ X id r) (ho:PE X o to) (ha:PA X (e::es) t)
   (hbase:attributeBase o name X.env (eval o X.env)=eval o X.env:=by rfl)
   (hfew:((backTo cpos (starEach (e::es) X.env)).all (λx=>!x.1)&&(backToKw cpos (keywordEach [] X.env)).all (λx=>x.1.isSome)
     && decide ((e::es).length+([]:List Keyword).length+(if([]:List Keyword).isEmpty then 0 else 1)<30))=true:=by rfl)
   (hline:(apos.endLine==cpos.line)=true:=by rfl) (hs:starEach (e::es) X.env=(false,eval e X.env)::starEach es X.env:=by rfl) (hplain:(backTo cpos (starEach es X.env)).any (·.1)=false:=by rfl) :
   PE X (.Call (.Attribute o name apos) (e::es) [] cpos) (tBM X.K T r to t):=by
 intro pins s σ H Q I h;refine wpAny_Call_method_late hbase hfew hline rfl (aQ (ho pins s σ H _ I h) λv s1 z89_=>?_);let#[x,H1,I1,r1,ty,q1]:=z89_;let#[h1,h2]:=wB I1 r1 ty;show#[T,id,pa,slot,hty,h1,h2,?_];have hA:=ha cpos pins s1 σ H1 _ I1 q1;rw[hs] at hA ⊢;refine Calls.callWith_builtin (by show(false || (backTo cpos (starEach es X.env)).any (·.1))=false; rw[hplain] <;> rfl) (Calls.evalArgs_plain ?_);exact aQ hA λus s2 z90_=>by let#[vs,H2,I2,r2,q2]:=z90_; exact hm pins s2 σ H2 x vs v us Q I2 r1 r2 q2
end
abbrev jA (X:Cx) (id:String) (r:V->List V->Hp->VK->Prop):Prop :=
 ∀(pins:List (L6×Obj)) (s:L5) (σ:St) (H:Hp) (x:V) (xs:List V) (v:K') (us:List K') (Q:VK),Inv X pins σ H s->aX x v->aU xs us->r x xs H Q ->
   wpAny 0x2 X.A (call (.builtin id) (v::us)) (EP X pins σ Q) X.xe s
def aU.one:∀{x:V} {us:List K'},aU [x] us->∃u,us=[u]/\aX x u:=by
 intro x us h;cases h with
 | cons r t=>cases t; show#[5,r]
def aU.zero:∀{us:List K'},aU [] us->us=[]
 | _,.nil=>rfl
def aU.dropLast {xs:List V} {us:List K'} (h:aU xs us):aU xs.dropLast us.dropLast:=by
 induction h with
 | nil=>exact .nil
 | cons r t ih =>
   cases t with
   | nil=>exact .nil
   | cons q t'=>exact .cons r ih
def aU.rep {xs:List V} {us:List K'} (h:aU xs us):∀k:Nat,aU (List.replicate k xs).flatten (List.replicate k us).flatten
 | 0=>.nil
 | k+1=>by rw[JK,JK,J2,J2];exact aU.append h (aU.rep h k)
def GM {α:Type} (l:List α):l.eraseIdx (l.length - 1)=l.dropLast:=by
 induction l with
 | nil=>rfl
 | cons a r ih =>
   cases r with
   | nil=>rfl
   | cons b r =>
     have e:(a::b::r).length - 1=((b::r).length - 1)+1:=by
       have h1:(a::b::r).length=r.length+2:=rfl;have h2:(b::r).length=r.length+1:=rfl
       lia
     rw[e,List.eraseIdx_cons_succ,ih]
     all_goals rfl
def vN (its:List K'):∀(k:Nat) (acc:List K'),
   List.foldl (λx1 x2=>x1++x2) acc.toArray (List.replicate k its.toArray)=(acc++(List.replicate k its).flatten).toArray
 | 0,acc=>by simp
 | k+1,acc=>by
   have e:acc.toArray++its.toArray=(acc++its).toArray:=by simp
   have e2:(acc++its)++(List.replicate k its).flatten=acc++(List.replicate (k+1) its).flatten:=by rw[JK,J2,Ib]
   rw[<- e2,<- vN its k (acc++its),<- e,JK,Jf]
section
variable {X:Cx} {pins:List (L6×Obj)} {σ:St} {H:Hp} {s:L5} {l b:L6} {xs ys zs:List V}
def Inv.lset {its its':List K'} {f:Array K'->Array K'} {t':Nat} (I:Inv X pins σ H s) (hH:H l=⇑(.lst xs))
   (e:s.heap.get? l=some { cls:=.type "list",data:=.seq its.toArray n }) (hf:f its.toArray=its'.toArray) (hv:aU ys its') (hz:ys.length<=sizeLine) :
   Inv X pins σ (upd H l (.lst ys)) { s with heap:=s.heap.update l (Obj.mapSeq f),toks:=t' }:=by
 have q:=PySem.IsL.update e f;rw[hf] at q;refine I.write (x:=l) (e:=l) (by rw[hH]; exact trivial) (.inl rfl) (λb' u hb hu=>(Ip s.heap (Obj.mapSeq f) (Ne.symm hb))\hu) #[_,q] ?_;show#[hz,its',_,hv,q]
def Inv.lnew {its:List K'} {t':Nat} (I:Inv X pins σ H s) (hv:aU ys its) (hz:ys.length<=sizeLine) :
   Inv X pins σ (upd H s.heap.objs.size (.lst ys)) { s with heap:=s.heap.push { cls:=.type "list",data:=.seq its.toArray },toks:=t' } :=
 I.laid (λ_ _ q=>HW _ q) (HY _) #[hz,its,(0),hv,Hs _ rfl]
def Inv.fresh (I:Inv X pins σ H s):H s.heap.objs.size=none:=I.hok.fresh (HY _)
def Inv.lstM (I:Inv X pins σ H s) (hH:H l=⇑(.lst xs)):xs.length<=sizeLine/\∃(its:List K') (n:Nat),aU xs its/\xs.length=its.length/\s.heap.get? l=some { cls:=.type "list",data:=.seq its.toArray n }:=by let#[z,its,n,r,e]:=I.hok l _ hH;show#[z,its,n,r,r.length,e]
def oZ (h:n<=sizeLine):Builtin.List.listTooLong n=false:=by unfold Builtin.List.listTooLong;exact IU ∅
end
section
variable {X:Cx}
abbrev zR:V->List V->Hp->VK->Prop:=λx vs H Q=>∃l xs y,x=↥l/\vs=[y]/\H l=⇑(.lst xs)/\xs.length<sizeLine/\Q .non (upd H l (.lst (xs++[y])))
def jO:jA X "list.append" zR:=by
 intro pins s σ H x vs v us Q I rx rv h;let#[l,xs,y,rfl,rfl,hH,hz,q]:=h;cases rx;let#[u,rfl,ru]:=rv.one;let#[z,its,n,r,hl,e]:=I.lstM hH;refine call_meets F.slot_list_append #[_,e,rfl] F.entry_list_append (F.args_list_append_2 _ _) (PySem.list_append l its.toArray n u (by rw[Hn]; lia)) #[e,?_];show#[.non,_,I.lset (its':=its++[u]) hH e 0x6 (r.append (.cons ru .nil)) ?_,rfl,q];rw[HZ,JR]
 lia
abbrev AW:V->List V->Hp->VK->Prop:=λx vs H Q=>∃l b xs zs,x=↥l/\vs=[↥b]/\H l=⇑(.lst xs)/\H b=⇑(.lst zs)/\xs.length+zs.length<=sizeLine/\Q .non (upd H l (.lst (xs++zs)))
def oX:jA X "list.extend" AW:=by
 intro pins s σ H x vs v us Q I rx rv h;let#[l,b,xs,zs,rfl,rfl,hH,hB,hz,q]:=h;cases rx;let#[u,rfl,ru]:=rv.one;cases ru;let#[z,its,n,r,hl,e]:=I.lstM hH;let#[z2,its2,n2,r2,hl2,e2]:=I.lstM hB;have hsz:its.toArray.size+its2.toArray.size<=sizeLine:=by rw[Hn,Hn]; lia
 have hlong:¬ (!its.toArray.isEmpty&&Builtin.List.listTooLong (its.toArray.size+its2.toArray.size))=true:=by rw[oZ hsz,Bool.and_false];exact Ho
 refine call_meets F.slot_list_extend #[_,e,rfl] F.entry_list_extend (F.args_list_extend_2 _ _)
   (AutoSeq1.list_extend_list_list_0 l its.toArray n b its2.toArray n2 hlong (by rw[Hn]; lia) ∅) #[e,e2,?_]
 show#[.non,_,I.lset (its':=its++its2) hH e 0x6 (r.append r2) ?_,rfl,q];rw[HZ]
 lia
abbrev CY:V->List V->Hp->VK->Prop:=λx vs H Q=>∃l xs y,x=↥l/\vs=[]/\H l=⇑(.lst xs)/\xs[xs.length - 1]?=⇑y/\Q y (upd H l (.lst xs.dropLast))
def uD:jA X "list.pop" CY:=by
 intro pins s σ H x vs v us Q I rx rv h;let#[l,xs,y,rfl,rfl,hH,hy,q]:=h;cases rx;have hus:=rv.zero;subst hus;let#[z,its,n,r,hl,e]:=I.lstM hH;let#[u,hu,ru]:=r.get hy;have hy':its.toArray[its.toArray.size - 1]?=⇑u:=by show its.toArray[its.length - 1]?=⇑u;rw[<- Array.getElem?_toList,<- hl];exact hu
 refine call_meets F.slot_list_pop #[_,e,rfl] F.entry_list_pop (F.args_list_pop_1 _) (MeetsSeq.list_pop_last l its.toArray n u hy' (by rw[Hn]; lia)) #[e,?_];show#[y,_,I.lset (its':=its.dropLast) hH e ?_ r.dropLast ?_,ru,q]
 . show its.toArray.eraseIdxIfInBounds (its.toArray.size - 1)=its.dropLast.toArray;rw[Hn,List.eraseIdxIfInBounds_toArray,GM]
 . rw[List.length_dropLast]
   lia
abbrev HG:V->List V->Hp->VK->Prop:=λx vs H Q=>∃l xs,x=↥l/\vs=[]/\H l=⇑(.lst xs)/\Q .non (upd H l (.lst []))
def FM:jA X "list.clear" HG:=by intro pins s σ H x vs v us Q I rx rv h;let#[l,xs,rfl,rfl,hH,q]:=h;cases rx;have hus:=rv.zero;subst hus;let#[z,its,n,r,hl,e]:=I.lstM hH;refine call_meets F.slot_list_clear #[_,e,rfl] F.entry_list_clear (F.args_list_clear_1 _) (AutoSeq1.list_clear_list_0 l its.toArray n (by rw[Hn]; lia)) #[e,?_];show#[.non,_,I.lset (its':=[]) (ys:=[]) hH e rfl .nil (Hw _),rfl,q]
abbrev ET:R2:=λx y H Q=>∃l b xs zs,x=↥l/\y=↥b/\H l=⇑(.lst xs)/\H b=⇑(.lst zs)/\xs.length+zs.length<=sizeLine/\∀p,H p=none->Q ↥p (upd H p (.lst (xs++zs)))
def nc:bP X (binaryOp .Add) ET:=by
 intro pins s σ H x y v u Q I rx ry h;let#[l,b,xs,zs,rfl,rfl,hH,hB,hz,q]:=h;cases rx;cases ry;let#[z,its,n,r,hl,e]:=I.lstM hH;let#[z2,its2,n2,r2,hl2,e2]:=I.lstM hB;refine PySem.P.add_list e e2 ?_ (by rw[Hn,Hn]; lia);have ea:its.toArray++its2.toArray=(its++its2).toArray:=by simp
 rw[ea];show#[↥_,_,I.lnew (t':=s.toks) (r.append r2) (by rw[HZ]; lia),rfl,q _ I.fresh]
abbrev CM:R2:=λx y H Q=>∃l k xs,x=↥l/\y=.int k/\H l=⇑(.lst xs)/\-(2 ^ 63)<=k/\k<2 ^ 63/\xs.length * k.toNat<=sizeLine /\
 ∀p,H p=none->Q ↥p (upd H p (.lst (List.replicate k.toNat xs).flatten))
def uP {α:Type} (xs:List α) (k:Nat):(List.replicate k xs).flatten.length=k * xs.length:=by
 induction k with
 | zero=>simp
 | succ k ih=>rw[JK,J2,HZ,ih,Nat.succ_mul,Nat.add_comm]
def sK:bP X (binaryOp .Mult) CM:=by
 intro pins s σ H x y v u Q I rx ry h;let#[l,k,xs,rfl,rfl,hH,h1,h2,hz,q]:=h;cases rx;let#[t,rfl]:=ry;let#[z,its,n,r,hl,e]:=I.lstM hH;have hlen:its.toArray.size * k.toNat<=sizeLine:=by rw[Hn,<- hl]; exact hz
 have hcap:¬ its.toArray.size * k.toNat > (2 ^ 63 - 1) / 8:=by
   have:(sizeLine:Nat)<=(2 ^ 63 - 1) / 8:=by decide
   lia
 have hfit:¬ (!Builtin.List.listFitsIndex k)=true:=by rw[fitsIndex_both h1 h2];exact Ho
 have hlong:¬ Builtin.List.listTooLong (its.toArray.size * k.toNat)=true:=by rw[oZ hlen];exact Ho
 have hnew:List.foldl (λx1 x2=>x1++x2) 0xA (List.replicate (if its.toArray.isEmpty=true then 0 else k.toNat) its.toArray)=(List.replicate k.toNat its).flatten.toArray:=by
   have f0:∀m:Nat,List.foldl (λx1 x2=>x1++x2) 0xA (List.replicate m its.toArray)=(List.replicate m its).flatten.toArray:=λm=>by have:=vN its m [];rw[Ku] at this;exact this
   rw[f0];cases its with
   | nil=>simp
   | cons a r'=>rw[HX 0x6]
 refine wpAny_binaryOp_repeat_ref (T:="list") (U:="int") #[] #[_,e,rfl] (λs'=>typeIs_int s' k t) noFill_list_mul F.fills_int_mul F.slot_int_rmul repeat_list F.slot_int_index.lookup
   (call_meets F.slot_int_rmul (typeIs_int s k t) F.entry_int_rmul (F.args_int_rmul_2 _ _) (int___rmul___int_list k t l its.toArray n)
     #[e,rfl,#[_,e,rfl],call_meets F.slot_list_mul #[_,e,rfl] F.entry_list_mul (F.args_list_mul_2 _ _) (AutoListH.list___mul___list_int_3 l its.toArray n k t hfit hcap hlong) #[e,?_]])
 rw[hnew];show#[↥_,_,I.lnew (t':=s.toks) (r.rep k.toNat) (by rw[uP,Nat.mul_comm]; exact hz),rfl,q _ I.fresh]
end
end L2
namespace Att
open PySem PySem.W PySem.Calls PyProof.Rows
def GC {P:Params} {h:Heap}:∀(ns:List Int) (vs:List K'),WellAll P h vs (ns.map WData.int)->IntsAre vs ns:=by
 intro ns
 induction ns with
 | nil =>
   intro vs w;rw[List.map_nil] at w;cases w;exact .nil
 | cons n ns ih =>
   intro vs w;rw[IF] at w;cases w with
   | cons a b =>
     cases a;exact .cons _ _ (ih _ b)
def zX {l:OpenLaw} {n:Nat} (hn:l.most=⇑n) {P:Params} {h:Heap} {args:List WData} {vals:List K'}
   (hpre:l.row.toRowW.claim.pre args=true) (hwl:WellAll P h vals args) :
   ∃a vs ns,vals=[Value.ref a]/\args=[WData.list (ns.map WData.int)]/\h.get? a=some { cls:=.type "list",data:=.seq vs.toArray }/\IntsAre vs ns/\ns.length<=n:=by
 have r9:WShape.hasAll [] args [.list .int]=true:=(pre_splitW hpre).1;have hc:l.pre.holds [] { args:=args }=true:=(pre_splitW hpre).2;let#[d,r,rfl,h1,h2]:=hasAllW_cons r9;obtain rfl:=hasAllW_nil h2;let#[xs,rfl,h3]:=hasW_list h1;let#[ns,rfl]:=items_int h3;have hlen:ns.length<=n:=by
   unfold OpenLaw.pre at hc;have h4:(WTm.not (.lt (.lit (.int (n:Int))) (.len (.arg 0)))).holds [] { args:=[.list (ns.map .int)] }=true:=by have h4:=(holds_andW hc).1;rw[hn] at h4;exact h4
   have h5:=condW_of h4 (w_not (w_lt w_lit (w_len_list (w_arg rfl))));rw[HS] at h5;refine Nat.le_of_not_lt λq=>?_;have q':(n:Int)<((ns.length:Nat):Int):=by lia
   first
     | (rw[Hf q'] at h5; exact absurd h5 #[])
     | (simp at h5; lia)
 cases hwl with
 | cons w1 w2 =>
   cases w2;cases w1 with
   | list ho hall=>show#[4,ns,7,ho,GC ns _ hall,hlen]
def C9 (l:OpenLaw) (args:List WData):l.row.toRowW.claim.post args (.bool true) args=true :=
 postW_of (r:=l.row.toRowW) (X:=(true==true))
   (show WShape.has [] (.bool true) .bool=true by first|rfl|decide|simp [WShape.has,WShape.arms,WShape.armsAll])
   (show(WTm.eq .res (.lit (.bool true))).value [] { args:=args,res:=⇑(.bool true),after:=args }=⇑(.bool (true==true)) from w_eq_bool (w_res rfl) w_lit) rfl
def attach_call {l:OpenLaw} {n:Nat} {q:Program} {loose:List Str} {XP:(Str->Hl K')->Heap->Prop} {YP:World->Heap->Prop} {d:DefRec}
   (hn:l.most=⇑n) (hdf:d.params.defaults=[])
   (call:∀(w:World) (s₀ s₁:L5) (mg mb:Str->Hl K') (fa:L6) (o:Obj) (pm cd doc:K') (a:L6) (vs:List K') (ns:List Int),
     Ground q loose [] XP w s₀ mg mb s₁.heap->YP w s₁.heap ->
     s₁.heap.get? fa=⇑o->o.data=.func (docDef d.name d.params d.body d.scope pm cd doc)->s₁.heap.CodeRec cd d.name->mg d.name=⇑↥fa ->
     s₁.heap.get? a=some { cls:=.type "list",data:=.seq vs.toArray }->IntsAre vs ns->ns.length<=n->s₁.gens=0xA ->
     codeAny (model l.prog w) callerA (.call ↥fa #[[↥a],[]]) (λr s'=>r=.ok (.ret (.bool true))/\OldK s₁.heap s'.heap/\s'.os=s₁.os/\AllBare s'.gens) s₁) :
   WalkO q loose XP YP l.row.toRowW d [] (λf vs=>PySem.call f vs):=by
 intro w s₀ s₁ mg mb G Y fa o pm cd doc dV kV ho hd hcd hD hmg hg args vals as hpre hlay hrd hwl hlo;obtain rfl:dV=.none:=Dflts.none hD hdf;obtain rfl:kV=.none:=Dflts.noKw hD;let#[a,vs,ns,rfl,rfl,hobj,hints,hlen]:=zX hn hpre hwl;refine enter_call (Jk (call w s₀ s₁ mg mb fa o pm cd doc a vs ns G Y ho (fd_plain hd) hcd hmg hobj hints hlen hg) λr s' hq=>?_);let#[rfl,h2,h3,h4]:=hq;show#[.inl #[.bool true,.bool true,[],rfl,λ_=>rfl,.bool true,C9 l _,λ_=>#[List.Pairwise.nil,λ_ hm=>(nomatch hm)]],h2,h3,h4]
end Att
namespace L2
open PySem PySem.Spec PyProof.Rows
def BZ:∀{vs:List K'} {ns:List Int},IntsAre vs ns->aU (ns.map V.int) vs:=by
 intro vs ns h
 induction h with
 | nil=>exact .nil
 | cons n t h ih=>exact .cons #[t,rfl] ih
abbrev mO (H:Hp):Prop:=∀b,H b=none\/∃o xs,H b=⇑(.frz o (.lst xs))
variable {x:Str}
def zy {P:Program} {w:World} {K:L7} {mg mb:Str->Hl K'} {CX:di} {k:Nat} {fa a:L6} {fd:FuncData} {sp:Sp} {s₁:L5} {vs:List K'} {ns:List Int}
   (KX:K.In s₁.heap) (hns:s₁.heap.Ns mainGlobals mg) (hb:s₁.heap.Ns builtinsNs mb) (hbb:∀x:Str,x≠"__name__"->mb x=bootBuiltins x) (hlim:s₁.heap.NoLimit) (hg:s₁.gens=0xA)
   (ha:s₁.heap.get? a=some { cls:=.type "list",data:=.seq vs.toArray }) (hi:IntsAre vs ns) (hl:ns.length<=sizeLine) (hr:Room k callerA)
   (F:∀base:Heap,K.In base->base.Ns mainGlobals mg->FnOk P w K mg base CX k fa fd [x] sp) (hbind:∀(s:L5) (u:K'),BindsTo s fd #[[u],[]] [(x,u)])
   (hsp:∀H:Hp,mO H->aE K H a (ns.map V.int)->sp [↥a] H (λv _=>v=.bl true) λ_ _ _=>False)
   (hCX:∀H e s',CX [] H s₁ (λ_ _ _=>False) e s'->False) :
   codeAny (model P w) callerA (.call ↥fa #[[↥a],[]]) (λr s'=>r=.ok (.ret (.bool true))/\OldK s₁.heap s'.heap/\s'.os=s₁.os/\AllBare s'.gens) s₁:=by
 have rv:=BZ hi;have lenV:=hi.length
 -- from an abstract heap in which nothing but the script may be tracked
 have core:∀H:Hp,mO H->aE K H a (ns.map V.int)->az P w H s₁.heap->(∀b,H b≠none->b=a)->(H a≠none->K.lookup a=none) ->
     codeAny (model P w) callerA (.call ↥fa #[[↥a],[]]) (λr s'=>r=.ok (.ret (.bool true))/\OldK s₁.heap s'.heap/\s'.os=s₁.os/\AllBare s'.gens) s₁:=by
   intro H hO hS hok hA hK;have base_of:∀{b:L6} {o:Obj},s₁.heap.get? b=⇑o->H b=none->(gI s₁.heap H).get? b=⇑o:=λe n=>G7 e n;have noA:∀{b:L6} {o:Obj} {es:Array DictEntry} {ep:Nat},s₁.heap.get? b=⇑o->o.data=.dict es ep->H b=none:=λ{b o es ep} e d=>by
     cases q:H b with
     | none=>rfl
     | some u =>
       have e':b=a:=hA b (by rw[q]; simp);subst e';rw[ha] at e; cases e;have d':Data.seq vs.toArray _=Data.dict es ep:=d;cases d'
   have nsK:∀{b:L6} {m:Str->Hl K'},s₁.heap.Ns b m->(gI s₁.heap H).Ns b m:=λ{b m} z93_=>by let#[o,es,ep,e,d,r]:=z93_; show#[o,es,ep,base_of e (noA e d),d,r]
   have hKb:K.In (gI s₁.heap H):=λb o e=>base_of (KX b o e) (by
     cases q:H b with
     | none=>rfl
     | some u =>
       have e':b=a:=hA b (by rw[q]; simp);subst e';rw[hK (by rw[q]; simp)] at e; cases e)
   have hM:Mod K mg (gI s₁.heap H):=#[hKb,nsK hns,#[mb,nsK hb,hbb],by let#[mc,h1,h2]:=hlim; show#[mc,nsK h1,h2]]
   have e0:Env0 P w K mg (gI s₁.heap H) callerA [] s₁ H:=#[rfl,hM,λb o e=>AK e,Nat.le_of_eq (De _ _),trivial,λb hb=>absurd (show b∈([]:List L6) from hb) 0x6,hok,.of_eq hg]
   refine Jk ((F _ hKb (nsK hns)).run callerA [] s₁ H #[[↥a],[]] [↥a] [↥a] _ _ hr e0 (hbind s₁ ↥a) (.cons rfl .nil) (hsp H hO hS)) λr s' h=>?_;cases r with
   | error e=>exact(hCX H e s' h).elim
   | ok fl =>
     cases fl with
     | next=>exact False.elim h
     | brk=>exact False.elim h
     | cont=>exact False.elim h
     | ret u =>
       let#[v,H',os,bare,un,hok',r',q]:=h;have q':v=.bl true:=q;subst q';obtain rfl:u=Value.bool true:=r';show#[rfl,OldK.of_keep λb o e=>?_,os,bare];cases q:H b with
       | none=>exact un.keep b o e q (by intro z; exact absurd (show b∈([]:List L6) from z) 0x6) 0x6
       | some u =>
         rcases hO b with z|⟨ob,xs,z⟩
         . rw[q] at z; cases z
         . have z2:=un.frzs b ob _ z;let#[e1,_]:=hok b _ z;let#[e2,_]:=hok' b _ z2;rw[e] at e1; cases e1;exact e2
 cases hk:K.lookup a with
 | some o =>
   -- the script is one of the module's own objects
   have e:=KX a o hk;rw[ha] at e;cases e;refine core (λ_=>none) (λ_=>.inl rfl) (.inr #[_,vs.toArray,_,hk,15,by rw[Hn,lenV]; exact hl,by simpa using rv]) (λb u z=>by have z':(none:Hl HO)=⇑u:=z; cases z') (λb z=>absurd rfl z) λz=>absurd rfl z
 | none =>
   refine core (λb=>if b=a then ⇑(.frz { cls:=.type "list",data:=.seq vs.toArray } (.lst (ns.map V.int))) else none) (λb=>?_) (.inl (.inr #[{ cls:=.type "list",data:=.seq vs.toArray },He rfl])) (λb u z=>?_) (λb z=>?_) λ_=>hk
   . by_cases hb:b=a
     . exact .inr #[4,He hb]
     . exact .inl (HX hb)
   . by_cases hb:b=a
     . have z':=(He hb).symm.trans z;cases z';subst hb;show#[ha,by rw[HS]; exact hl,vs,_,rv,ha]
     . have z':=(HX hb).symm.trans z;cases z'
   . by_cases hb:b=a
     . exact hb
     . exact absurd (HX hb) z
noncomputable abbrev KOf {K:L7} {h:Heap} (_:K.In h):L7:=K
def C2 {l:PySem.W.OpenLaw} {n k:Nat} {q:Program} {loose:List Str} {XP:(Str->Hl K')->Heap->Prop} {YP:World->Heap->Prop} {d:DefRec} {K:Params->L7} {CX:World->di} {sp:World->Sp} 
   (hn:l.most=⇑n) (hn2:n<=sizeLine) (hdf:d.params.defaults=[]) (hr:Room k callerA)
   (hY:∀(w:World) (h:Heap),YP w h->(K w.params).In h)
   (F:∀(w:World) (mg:Str->Hl K') (fa:L6) (h:Heap),(K w.params).In h->h.Ns mainGlobals mg->mg d.name=⇑↥fa ->
     ∃fd:FuncData,(∀(s:L5) (u:K'),BindsTo s fd #[[u],[]] [(x,u)]) /\
       ∀base:Heap,(K w.params).In base->base.Ns mainGlobals mg->FnOk l.prog w (K w.params) mg base (CX w) k fa fd [x] (sp w))
   (hsp:∀(w:World) (H:Hp) (a:L6) (ns:List Int),ns.length<=n->mO H->aE (K w.params) H a (ns.map V.int)->sp w [↥a] H (λv _=>v=.bl true) λ_ _ _=>False)
   (hCX:∀(w:World) (H:Hp) (s:L5) (e:K') (s':L5),CX w [] H s (λ_ _ _=>False) e s'->False) :
   PySem.W.WalkO q loose XP YP l.row.toRowW d [] (λf vs=>PySem.call f vs):=by
 refine Att.attach_call hn hdf λw s₀ s₁ mg mb fa o pm cd doc a vs ns G Y ho hd hcd hmg hobj hints hlen hg=>?_;have KX:=hY w _ Y;let#[fd,hb,hF]:=F w mg fa _ KX G.T.g hmg;exact zy KX G.T.g G.T.b G.T.builtins G.T.nolimit hg hobj hints (Hu hlen hn2) hr hF hb (λH hO hS=>hsp w H a ns hlen hO hS) λH e s'=>hCX w H s₁ e s'
def walk_ofK {l:PySem.W.OpenLaw} {n k:Nat} {q:Program} {loose:List Str} {XP:(Str->Hl K')->Heap->Prop} {YP:World->Heap->Prop} {d:DefRec} {K:Params->L7} {CX:di} {sp:L7->Sp} 
   (hn:l.most=⇑n) (hn2:n<=sizeLine) (hdf:d.params.defaults=[]) (hr:Room k callerA)
   (hY:∀(w:World) (h:Heap),YP w h->(K w.params).In h)
   (F:∀(w:World) (mg:Str->Hl K') (fa:L6) (h:Heap),(K w.params).In h->h.Ns mainGlobals mg->mg d.name=⇑↥fa ->
     ∃fd:FuncData,(∀(s:L5) (u:K'),BindsTo s fd #[[u],[]] [(x,u)]) /\
       ∀base:Heap,(K w.params).In base->base.Ns mainGlobals mg->FnOk l.prog w (K w.params) mg base CX k fa fd [x] (sp (K w.params)))
   (hsp:∀(K:L7) (H:Hp) (a:L6) (ns:List Int),ns.length<=n->mO H->aE K H a (ns.map V.int)->sp K [↥a] H (λv _=>v=.bl true) λ_ _ _=>False)
   (hCX:∀(H:Hp) (s:L5) (e:K') (s':L5),CX [] H s (λ_ _ _=>False) e s'->False) :
   PySem.W.WalkO q loose XP YP l.row.toRowW d [] (λf vs=>PySem.call f vs) :=
 C2 (K:=K) (CX:=λ_=>CX) (sp:=λw=>sp (K w.params)) hn hn2 hdf hr hY F (λw H a ns h1 h2 h3=>hsp (K w.params) H a ns h1 h2 h3) λ_ H s e s'=>hCX H s e s'
abbrev c6 (s:Stmt) (j:Nat):Stmt:=match s with
 | .ClassDef _ _ _ body _ _ _ _ _ _ _=>body.getD j (.Pass #[(0),(0),(0),(0)])
 | _=>.Pass #[(0),(0),(0),(0)]
abbrev cz (s:Stmt):Arguments:=match s with
 | .FunctionDef _ a _ _ _ _ _ _ _ _=>a
 | _=>{ posonlyargs:=[],args:=[],vararg:=none,kwonlyargs:=[],kw_defaults:=[],kwarg:=none,defaults:=[] }
abbrev aP (s:Stmt):List Stmt:=match s with
 | .FunctionDef _ _ b _ _ _ _ _ _ _=>b
 | _=>[]
abbrev aS (s:Stmt):Scope:=match s with
 | .FunctionDef _ _ _ _ _ _ sc _ _ _=>sc
 | _=>{ kind:=.function,names:=[],isGenerator:=false,isCoroutine:=false }
noncomputable abbrev CX0:di:=λ_ _ _ _ _ _=>False
noncomputable abbrev E0:XK:=λ_ _ _=>False
def bM {X:Cx}:fR CX0 X E0:=λ_ _ _ _ _ _ _ h=>h.elim
structure Fun (K:W.Frag) (x qual:Str) (st:Stmt) (f:Addr) (fd:FuncData):Prop where
 ex:∃(oc:Value) (od:Option Addr) (kV doc pm:Value) (an:Option Addr) (cdv ct:Value) (osl:Array (Option Value)),
   fd=PySem.W.fnOf x qual (cz st) (aP st) (aS st) .none kV doc pm an cdv ct/\K.lookup f=⇑#[oc,od,.func fd,osl]/\PySem.W.codeIn K cdv qual=true
 kp:PySem.W.keepIn K ↥f=true
variable {qual:Str}
section
variable {P:Program} {w:World} {K:L7} {mg:Str->Hl K'} {base:Heap}
def Fun.ok {st:Stmt} {f:L6} {fd:FuncData} {N ps:List Str} {k:Nat} {sp:Sp} (F:Fun K x qual st f fd) (S:FnScope N ps (aS st)) (len:∀vs H Q E,sp vs H Q E->vs.length=ps.length)
   (hbody:∀(cdv:K') (A:Around) (outer:List Env) (s:L5) (H:Hp) (vs:List V) (Q:VK) (E:XK),Room k (A.deeper (envOfC qual (aS st) s.heap.objs.size f cdv))->sp vs H Q E ->
     ∃t,aO (cS CX0 P w K mg base N qual (aS st) f cdv A outer s H E).nox (aP st) t/\t { nx:=λ_ H'=>Q .non H',rt:=Q } (eJ N vs) H):FnOk P w K mg base CX0 (k+1) f fd ps sp:=by
 let#[oc,od,kV,doc,pm,an,cdv,ct,osl,rfl,lk,hcd]:=F.ex;refine tq lk hcd S len λA outer s H vs Q E hr hsp=>?_;let#[t,h,q]:=hbody cdv A outer s H vs Q E hr hsp;show#[t,h.nox,q]
def Fun.binds {st:Stmt} {f:L6} {fd:FuncData} {ps:List Str} (F:Fun K x qual st f fd)
   (h:∀(kV doc pm:K') (an:Hl L6) (cdv ct:K') (us:List K'),us.length=ps.length->bindArgs (PySem.W.fnOf x qual (cz st) (aP st) (aS st) .none kV doc pm an cdv ct) #[us,[]]=pure (ps.zip us)):d9 K fd ps []:=by
 let#[oc,od,kV,doc,pm,an,cdv,ct,osl,rfl,lk,hcd]:=F.ex;exact .all (h kV doc pm an cdv ct)
def gn {st:Stmt} {f:L6} {oc:K'} {od an:Hl L6} {osl:Array (Hl K')} {kV doc pm cdv ct:K'} (l:K.lookup f=⇑#[oc,od,.func (PySem.W.fnOf x qual (cz st) (aP st) (aS st) .none kV doc pm an cdv ct),osl])
   (c:PySem.W.codeIn K cdv qual=true) (k:PySem.W.keepIn K ↥f=true):Fun K x qual st f (PySem.W.fnOf x qual (cz st) (aP st) (aS st) .none kV doc pm an cdv ct):=#[#[oc,od,kV,doc,pm,an,cdv,ct,osl,rfl,l,c],k]
end
def w4 {n:Nat} (h:n<=1000):n<sizeLine:=J9 h #[]
section
variable {X:Cx}
def pv (i:Nat) {pos:Pos} (hN:X.N[i]?=⇑x:=by rfl) (hv:ky X.env.scope x:=by first|exact Or.inl rfl|exact Or.inr 0x5|exact Or.inr (Or.inr rfl)) (hd:(x==("__debug__":Str))=false:=by decide)
   (hcd:(x==("__classdict__":Str))=false:=by decide):PE X (.Name x pos) (wI i):=BH hN hv hd hcd
end
def eW {A B:Prop} (h:B):if false=true then A else B:=by rw[HX Ho];exact h
def kr {A B:Prop} (h:A):if true=true then A else B:=by rw[He rfl];exact h
def pH {c A B:Prop} [Decidable c] (h1:c->A) (h2:¬ c->B):if c then A else B:=by
 by_cases h:c
 . rw[He h];exact h1 h
 . rw[HX h];exact h2 h
abbrev aB (H H':Hp):Prop:=∀b o,H b=⇑o->H' b=⇑o
def aB.refl (H:Hp):aB H H:=λ_ _ h=>h
def aB.trans {H H1 H2:Hp} (a:aB H H1) (b:aB H1 H2):aB H H2:=λc o h=>b c o (a c o h)
def aB.free {H H':Hp} (e:aB H H') {l:L6} (h:H' l=Option.none):H l=Option.none:=by
 cases q:H l with
 | none=>rfl
 | some o =>
   rw[e l o q] at h;cases h
def aB.seq {K:L7} {H H':Hp} {a:L6} {xs:List V} (e:aB H H') (h:aE K H a xs):aE K H' a xs:=by
 rcases h with(h|⟨o,h⟩)|h
 . exact .inl (.inl (e _ _ h))
 . exact .inl (.inr #[o,e _ _ h])
 . exact .inr h
end L2
set_option maxHeartbeats 4000000
namespace L2
open PySem PySem.Spec PyProof.Rows
abbrev dU:List (Str×NameKind)->List (Str×L6)->List (Str×L6)->List (Str×L6)
 | [],_,acc=>acc
 | (n,k)::r,cells,acc=>if k==.free then dU r cells ((n,(cells.lookup n).getD 0)::acc) else dU r cells acc
def ui {env:Env}:∀(names:List (Str×NameKind)) (acc:List (Str×L6)),(∀y∈names,y.2=.free->∃c,env.cells.lookup y.1=⇑c) ->
   (forIn names acc λx r=>(match x with|(name,kind)=>if(kind==NameKind.free)=true then do let a <- cellOf env name; pure (ForInStep.yield ((name,a)::r)) else pure (ForInStep.yield r):Sem (ForInStep (List (Str×L6)))))=(pure (dU names env.cells acc):Sem (List (Str×L6)))
 | [],acc,_=>rfl
 | (n,k)::r,acc,h=>by
   have ih:=λacc=>ui (env:=env) r acc λy hy=>h y (Hv _ hy);rw[KE];unfold dU;cases hk:(k==NameKind.free) with
   | true =>
     let#[c,hc]:=h (n,k) Hj ↑hk;have hc:env.cells.lookup n=⇑c:=hc;have e:cellOf env n=pure c:=by unfold cellOf; rw[hc]
     simp only[hk,if_true,e,pure_bind,hc,Option.getD_some];exact ih _
   | false =>
     simp only[hk,JA,if_false,pure_bind];exact ih _
variable {scope:Scope}
def F7 {env:Env} (h:∀y∈scope.names,y.2=.free->∃c,env.cells.lookup y.1=⇑c):closureFor scope env=pure (dU scope.names env.cells []):=by
 have e:=ui (env:=env) scope.names [] h;unfold closureFor
 first
   | (rw[e]; rfl)
   | (simp only[e]; rfl)
   | exact(Hr (λt=>t >>= λr=>pure r) e)
def pj {cells:List (Str×L6)}:∀(names:List (Str×NameKind)) (acc:List (Str×L6)),(∀y∈names,y.2=.free->∃c,cells.lookup y.1=⇑c)->(∀x c,acc.lookup x=⇑c->cells.lookup x=⇑c) ->
   ∀x c,(dU names cells acc).lookup x=⇑c->cells.lookup x=⇑c
 | [],acc,_,h2=>h2
 | (n,k)::r,acc,h,h2=>by
   unfold dU;cases hk:(k==NameKind.free) with
   | true =>
     rw[He rfl];refine pj r _ (λy hy=>h y (Hv _ hy)) λx c e=>?_;let#[c',hc]:=h (n,k) Hj ↑hk;have hc:cells.lookup n=⇑c':=hc;rw[J6] at e;cases hx:x==n with
     | true =>
       have hx':x=n:=↑hx
       rw[hx] at e;rw[hx',hc];simpa [hc] using e
     | false =>
       rw[hx] at e;exact h2 x c e
   | false =>
     rw[HX 0x6];exact pj r _ (λy hy=>h y (Hv _ hy)) h2
def pI {cells:List (Str×L6)} {x:Str}:∀(names:List (Str×NameKind)) (acc:List (Str×L6)),(acc.lookup x).isSome=true->((dU names cells acc).lookup x).isSome=true
 | [],_,h=>h
 | (n,k)::r,acc,h=>by
   unfold dU;split
   . refine pI r _ ?_;rw[J6];cases x==n <;> simp [h]
   . exact pI r _ h
def qW {cells:List (Str×L6)} {x:Str}:∀(names:List (Str×NameKind)) (acc:List (Str×L6)),(x,NameKind.free)∈names->((dU names cells acc).lookup x).isSome=true
 | (n,k)::r,acc,h=>by
   unfold dU;rcases Hh.mp h with e|e
   . cases e;rw[He 0x0];exact pI r _ (by rw[J6]; simp)
   . split
     . exact qW r _ e
     . exact qW r _ e
abbrev cy (X:Cx) (N':List Str) (scope:Scope) (C:L6) (s:L5) (H:Hp) (fp:List L6):Cx :=
 { X with N:=N',s₀:=s,H₀:=H,env:=compEnvC scope (dU scope.names X.env.cells []) C X.env,outer:=X.stack,stack:=X.stack,ex:=fp,fn:=λ_=>false,pn:=[],xe:=λ_ _=>False }
abbrev bu (js:List (Hl Nat)) (σ:St):St:=js.map λo=>o.bind λj=>(σ[j]?).join
abbrev kE (scope osc:Scope) (N' N:List Str) (js:List (Hl Nat)):Bool :=
 (scope.kind==.function)&&(scope.names.all λy=>y.2 != .cell&&(if y.2==.local then scope.names.lookup y.1==some .local else true) &&
   (if y.2==.free then osc.names.lookup y.1==some .cell || osc.names.lookup y.1==some .free else true)) &&
 js.length==N'.length&&((js.zip N').all λq=>match q.1 with
   | none=>true
   | some j=>N[j]?==⇑q.2&&(osc.names.lookup q.2==some .cell || osc.names.lookup q.2==some .free)&&scope.names.lookup q.2==some .free)
structure CompOk (scope osc:Scope) (N' N:List Str) (js:List (Option Nat)):Prop where
 kind:scope.kind=.function
 nocell:∀y∈scope.names,y.2≠.cell
 names:∀y∈scope.names,y.2=.local->scope.names.lookup y.1=some .local
 free:∀y∈scope.names,y.2=.free->osc.names.lookup y.1=some .cell\/osc.names.lookup y.1=some .free
 len:js.length=N'.length
 slots:∀(i j:Nat) (x:Str),js[i]?=⇑⇑j->N'[i]?=⇑x->N[j]?=⇑x/\(osc.names.lookup x=some .cell\/osc.names.lookup x=some .free)/\scope.names.lookup x=some .free
variable {N':List Str} {js:List (Hl Nat)}
def Ca {osc:Scope}{N:List Str}(h:kE scope osc N' N js=true):CompOk scope osc N' N js:=by
 unfold kE at h;rw[IN,IN,IN,K9,K9] at h;obtain⟨⟨⟨h1,h2⟩,h3⟩,h4⟩:=h;show#[by cases hk:scope.kind <;> first|rfl|(rw[hk] at h1; cases h1),λy hy e=>?_,λy hy e=>?_,λy hy e=>?_,by simpa using h3,λi j x e1 e2=>?_]
 . have q:=h2 y hy;rw[e] at q;simp at q
 . have q:=h2 y hy;rw[IN,IN] at q;have q2:=q.1.2;rw[e] at q2;simpa using q2
 . have q:=h2 y hy;rw[IN,IN] at q;have q2:=q.2;rw[e] at q2;simpa using q2
 . have hm:(⇑j,x)∈js.zip N':=by refine IA (i:=i) ?_;rw[Jt];show#[e1,e2]
   have q:=h4 _ hm;simp only[IN,Bool.or_eq_true,Kg] at q;show#[q.1.1,q.1.2,q.2]
def tW {env:Env}:∀(names:List (Str×NameKind)) (x:Str),names.lookup x=some .free ->
   ((names.map λ(n,k)=>if(k==NameKind.free&&env.scope.kind==.function&&env.kindOf n==some .cell) then(n,NameKind.cell) else(n,k)).lookup x=some .cell \/
     (names.map λ(n,k)=>if(k==NameKind.free&&env.scope.kind==.function&&env.kindOf n==some .cell) then(n,NameKind.cell) else(n,k)).lookup x=some .free)
 | [],x,h=>by simp at h
 | (n,k)::r,x,h=>by
   have ih:=tW (env:=env) r x;rw[IF];rw[J6] at h;by_cases hb:(k==NameKind.free&&env.scope.kind==.function&&env.kindOf n==some .cell)=true
   . have e1:(if(k==NameKind.free&&env.scope.kind==.function&&env.kindOf n==some .cell)=true then(n,NameKind.cell) else(n,k))=(n,NameKind.cell):=He hb;simp only[e1,J6];cases hx:x==n with
     | true=>exact .inl rfl
     | false =>
       rw[hx] at h;exact ih h
   . have e1:(if(k==NameKind.free&&env.scope.kind==.function&&env.kindOf n==some .cell)=true then(n,NameKind.cell) else(n,k))=(n,k):=HX hb;simp only[e1,J6];cases hx:x==n with
     | true =>
       rw[hx] at h;exact .inr h
     | false =>
       rw[hx] at h;exact ih h
def vi {scope:Scope} {env:Env}:∀(names:List (Str×NameKind)) (x:Str),(∀y∈names,y.2≠.cell) ->
   ((names.map λ(n,k)=>if(k==NameKind.free&&env.scope.kind==.function&&env.kindOf n==some .cell) then(n,NameKind.cell) else(n,k)).lookup x=some .cell \/
     (names.map λ(n,k)=>if(k==NameKind.free&&env.scope.kind==.function&&env.kindOf n==some .cell) then(n,NameKind.cell) else(n,k)).lookup x=some .free)->(x,NameKind.free)∈names
 | [],x,_,h=>by simp at h
 | (n,k)::r,x,hc,h=>by
   have ih:=vi (scope:=scope) (env:=env) r x λy hy=>hc y (Hv _ hy);rw[IF] at h;by_cases hb:(k==NameKind.free&&env.scope.kind==.function&&env.kindOf n==some .cell)=true
   . have hkf:k=.free:=by rw[IN,IN] at hb;simpa using hb.1.1
     have e1:(if(k==NameKind.free&&env.scope.kind==.function&&env.kindOf n==some .cell)=true then(n,NameKind.cell) else(n,k))=(n,NameKind.cell):=He hb;simp only[e1,J6] at h;cases hx:x==n with
     | true =>
       have hx':x=n:=↑hx
       rw[hx',hkf];exact Hj
     | false =>
       rw[hx] at h;exact Hv _ (ih h)
   . have e1:(if(k==NameKind.free&&env.scope.kind==.function&&env.kindOf n==some .cell)=true then(n,NameKind.cell) else(n,k))=(n,k):=HX hb;simp only[e1,J6] at h;cases hx:x==n with
     | true =>
       have hx':x=n:=↑hx
       rw[hx] at h;rcases h with h|h
       . exact absurd (Option.some.inj h) (hc (n,k) Hj)
       . have hkf:k=.free:=Option.some.inj h;rw[hx',hkf];exact Hj
     | false =>
       rw[hx] at h;exact Hv _ (ih h)
variable {H:Hp}
def Un.sameBut {fs ex:List L6} {H':Hp}{h h1 h2:Heap} {C:L6} (u:Un fs ex H H' h h1) (hs:Heap.SameBut C h1 h2) (hC:h.objs.size<=C):Un fs ex H H' h h2:=by
 have ne:∀b o,h.get? b=⇑o->b≠C:=λb o e=>IG (IB (Hm e) hC);show#[λb o e n hb hx=>(hs.2 b (ne b o e))\(u.keep b o e n hb hx),λb o e n hb hx=>?_,u.free,λb o e hx=>?_,u.tups,u.frzs,u.tbls]
 . let#[sl,q]:=u.slot b o e n hb hx;show#[sl,(hs.2 b (ne b o e))\q]
 . let#[o',q]:=u.there b o e hx;show#[o',(hs.2 b (ne b o e))\q]
def jL {α:Type} {t:Sem α} {Q Q':α->L5->Prop} {M:Model} {A:Around} {E:K'->L5->Prop} {s:L5} (h:wpAny M A t Q (λ_ _=>False) s) (hQ:∀a s,Q a s->Q' a s):wpAny M A t Q' E s:=Il h hQ λ_ _ f=>f.elim
variable {elt target iter:Expr} {ifs:List Expr} {pos:Pos}
def CH {prog:Program} {w:World} {A:Around} {R:Result->L5->Prop} {s:L5} {it acc:K'} {env:Env} (I:Nat->L5->Prop)
   (turn:∀n s,I n s->wpAny 0x3 A (pyNext it) (λr s₁=>match r with
     | none=>R (.ok .next) s₁
     | some v=>wpAny 0x3 A (letOwnedTupleGo target it v) (λ_ s₂=>wpAny 0x3 A (assign target env v) (λ_ s₃ =>
         wpAny 0x3 A (forIn ifs true λc r=>if r=true then do let ok <- isTrue c env (eval c env); pure (ForInStep.yield ok) else pure (ForInStep.yield r)) (λok s₄ =>
           if ok=true then wpAny 0x3 A (eval elt env) (λx s₅ =>
             wpAny 0x3 A (call (.builtin "list.append") [acc,x]) (λ_ s₆=>∃m,m<n/\I m s₆) (λ_ _=>False) s₅) (λ_ _=>False) s₄
           else ∃m,m<n/\I m s₄) (λ_ _=>False) s₃) (λ_ _=>False) s₂) (λ_ _=>False) s₁) (λ_ _=>False) s)
   (n:Nat) (h:I n s):codeAny 0x3 A (.compLoop (.ListComp elt [#[target,iter,ifs,(0)]] scope pos) 0 it acc env) R s:=by
 refine codeAny_loop rfl I (λn s hI=>?_) n h;show wpAny _ A ((compTurn (.ListComp elt [#[target,iter,ifs,(0)]] scope pos) 0 it acc env).onRaise (λx=>do noteFrame x env; theTreesLotGoes x)) _ _ s;refine wpAny_noted ?_;rw[compTurn_list];refine HR (Jr (HR (jL (turn n s hI) λr s₁ h₁=>?_)));cases r with
 | none=>exact Ha h₁
 | some v =>
   refine HR (jL h₁ λ_ s₂ h₂=>HR (jL h₂ λ_ s₃ h₃=>HR (jL h₃ λok s₄ h₄=>?_)));cases ok with
   | false=>exact Ha #[rfl,h₄]
   | true =>
     exact HR (HR (jL h₄ λx s₅ h₅=>HR (jL h₅ λ_ s₆ h₆=>Ha (Ha #[rfl,h₆]))))
abbrev kI (X:Cx) (ifs:List Expr) (t:TT):Prop :=
 ∀(pins:List (L6×Obj)) (s:L5) (σ:St) (H:Hp) (Q:Bool->Hp->Prop),Inv X pins σ H s->t σ H Q ->
   wpAny 0x2 X.A (forIn ifs true λc r=>if r=true then do let ok <- isTrue c X.env (eval c X.env); pure (ForInStep.yield ok) else pure (ForInStep.yield r)) (TP X pins σ Q) X.xe s
abbrev EL:TT:=λ_ H Q=>Q true H
variable {X:Cx}
def cj :kI X [] EL:=λ_ _ _ H _ I h=>wpAny_tests_nil #[H,I,h]
def Gw {c:Expr} {t:TT} (h:PT X c t):kI X [c] t:=λpins s σ H Q I hq=>wpAny_tests_one (h pins s σ H Q I hq)
abbrev kg (js:List (Hl Nat)) (g:TG):Prop:=∀(x:V) (σ:St) (H:Hp) (Q:St->Hp->Prop),σ.length=js.length->g x σ H Q->g x σ H λσ' H'=>Q σ' H'/\σ'.length=js.length/\∀(i j:Nat),js[i]?=⇑⇑j->σ'[i]?=σ[i]?
abbrev mr (js:List (Hl Nat)) (g:dz):Prop:=∀(x:List V) (σ:St) (H:Hp) (Q:St->Hp->Prop),σ.length=js.length->g x σ H Q->∀Q':St->Hp->Prop,(∀σ' H',Q σ' H'->σ'.length=js.length->(∀(i j:Nat),js[i]?=⇑⇑j->σ'[i]?=σ[i]?)->Q' σ' H')->g x σ H Q'
def dD {i:Nat} (h:js[i]?=⇑none:=by rfl):kg js (fQ i):=λx σ H Q hl q=>#[q,by rw[Je]; exact hl,λk j e=>by rw[JB];intro z;subst z;rw[h] at e;cases e]
def pf :mr js u9:=λx σ H Q hl z94_ Q' k=>by let#[e,q]:=z94_; show#[e,k _ _ q hl λ_ _ _=>rfl]
def ij {i:Nat} {u:dz} (hu:mr js u) (h:js[i]?=⇑none:=by rfl):mr js (vX (fQ i) u):=λx σ H Q hl ⟨v,r,e,q⟩ Q' k=>#[v,r,e,by
 have hl':(σ.set i ⇑v).length=js.length:=by rw[Je]; exact hl
 exact hu r (σ.set i ⇑v) H Q hl' q _ λσ' H' z1 z2 z3=>k σ' H' z1 z2 λn j e=>(z3 n j e)\(by rw[JB];intro z;subst z;rw[h] at e;cases e)]
def qU {K:L7} {n:Nat} {t:dz} (h:mr js t):kg js (jt K n t):=λx σ H Q hl z96_=>by let#[a,xs,e,sq,l,q]:=z96_; show#[a,xs,e,sq,l,h xs σ H Q hl q _ λσ' H' z1 z2 z3=>#[z1,z2,z3]]
abbrev gW (J:It) (g:TG) (tif:TT) (te:TE) (js:List (Hl Nat)) (σ:St) (Q:VK) (p:L6) (H1:Hp):Prop :=
 ∃W:Nat->Nat->List V->Hp->Prop,(∃m,W 0 m [] (upd H1 p (.lst [])))/\∀i m acc H2,W i m acc H2->H2 p=⇑(.lst acc) /\
   ((J.stop i H2/\Q ↥p H2)\/(J.go i H2/\acc.length<sizeLine/\∃N:List V->Hp->Prop,(∀acc' H',N acc' H'->∃m',m'<m/\W (i+1) m' acc' H') /\
     ∀x H',J.yld i H2 x H'->g x (bu js σ) H' λσ2 H3=>tif σ2 H3 λc H4 =>
       if c=true then te σ2 H4 λy H5=>H5 p=⇑(.lst acc)/\N (acc++[y]) (upd H5 p (.lst (acc++[y]))) else N acc H4))
abbrev oq (wi:TI) (g:TG) (tif:TT) (te:TE) (js:List (Hl Nat)):TE:=λσ H Q=>wi σ H λJ H1=>∀p,H1 p=none->gW J g tif te js σ Q p H1
variable {wi:TI} {tif:TT} {te:TE}
def wU {use:Hl (K'->Sem Unit)} {Q':K'->L5->Prop} {Q:VK} {pins:List (L6×Obj)} {s:L5} {σ:St} {g:TG} (hok:kE scope X.env.scope N' X.N js=true) (hc:X.calm=true)
   (hi:PI X target iter wi) (ho:kg js g) (hg:∀C s H fp,PG (cy X N' scope C s H fp) target g) (hif:∀C s H fp,kI (cy X N' scope C s H fp) ifs tif) (he:∀C s H fp,PE (cy X N' scope C s H fp) elt te)
   (hs:∀x,foldedSetIterable iter X.env x=pure x) (I:Inv X pins σ H s) (h:oq wi g tif te js σ H Q)
   (hfin:∀(s2:L5) (H2:Hp) (fp:List L6) (C:L6),Inv X pins σ H2 s2->(∀b∈fp,dq X pins H2 b)->s2.heap.objs.size<=C->∀(σ':St) (H':Hp) (s':L5),Inv (cy X N' scope C s2 H2 fp) [] σ' H' s'->Q ↥s2.heap.objs.size H' ->
     compPost 0x2 X.A X.xe use Q' ↥s2.heap.objs.size C (.ok .next) s') :
   wpAny 0x2 X.A (comprehension (.ListComp elt [#[target,iter,ifs,(0)]] scope pos) scope X.env (firstIterPos [#[target,iter,ifs,(0)]] pos) (newList []) false (eval iter X.env) use) Q' X.xe s:=by
 have O:=Ca hok;have hfr:∀y∈scope.names,y.2=.free->∃c,X.env.cells.lookup y.1=⇑c:=λy hy e=>I.ok.has y.1 (O.free y hy e);refine wpAny_comprehension_free (use:=use) rfl hs (F7 hfr) O.kind O.names (aQ (hi pins s σ H _ I h) λv s1 h1=>aQ h1 λitv s2 h2=>?_);let#[it,fp,tn,J,H2,e,I2,T,gj,f2,hq]:=h2;subst e;have hf0:H2 s2.heap.objs.size=none:=I2.hok.fresh (HY _);obtain⟨W,⟨m0,w0⟩,turn⟩:=hq _ hf0;refine J1 (wpAny_newFunctionEnv O.nocell (by intro y hy; simp at hy) (λh₁ hns₁ hsb₁=>?_) O.kind);dsimp only at hns₁ hsb₁ ⊢;generalize hH2:s2.heap.push { cls:=.type "list",dict:=none,data:=.seq ([]:List K').toArray }=B at hns₁ hsb₁ ⊢;have hC:B.objs.size=s2.heap.objs.size+1:=by rw[<- hH2,Iy]
 have hCle:s2.heap.objs.size<=B.objs.size:=by rw[hC]; exact Ja _
 have old:∀b o,s2.heap.get? b=⇑o->h₁.get? b=⇑o:=λb o e=>hsb₁.extBut b o (by rw[hC]; exact IG (Nat.lt_succ_of_lt (Hm e))) (HW _ (hH2 ▸ HW _ e));have hDC:s2.heap.objs.size≠B.objs.size:=by rw[hC]; exact IG (Iw _)
 have hacc:h₁.get? s2.heap.objs.size=some { cls:=.type "list",dict:=none,data:=.seq ([]:List K').toArray }:=hsb₁.extBut _ _ hDC (HW _ (hH2 ▸ Hs _ rfl));have fpO:∀b∈fp,b<s2.heap.objs.size:=λb hb=>by let#[o,e,_]:=T.obj 0 _ gj b hb;exact Hm e
 have sub:∀x c,(dU scope.names X.env.cells []).lookup x=⇑c->X.env.cells.lookup x=⇑c:=pj scope.names [] hfr (λx c e=>by cases e);have hasC:∀x,((relabel scope X.env).names.lookup x=some .cell\/(relabel scope X.env).names.lookup x=some .free)->∃c,(dU scope.names X.env.cells []).lookup x=⇑c:=λx hx =>
   Jx.mp (qW scope.names [] (vi (scope:=scope) (env:=X.env) scope.names x O.nocell hx))
 -- the block's context at its begin
 have IY:∀t,Inv (cy X N' scope B.objs.size s2 H2 fp) [] (bu js σ) (upd H2 s2.heap.objs.size (.lst [])) { s2 with heap:=h₁,toks:=t }:=by
   intro t;show#[#[I2.ok.mod,O.kind,I2.ok.glob,I2.ok.blt,hCle,λx y c h1 h2=>I2.ok.inj x y c (sub x c h1) (sub y c h2),λx hx=>hasC x hx,λx c h=>(by cases h),I2.ok.hd,I2.ok.frames,.inl rfl,λb hb=>#[IG (IB (fpO b hb) hCle),λx c e=>(f2 b hb).2.2.2.2.1 x c (sub x c e)],
     I2.bs,Hu I2.ok.bsz I2.sz,λb o e hb=>?_,λb hb z=>?_,I2.stack,I2.stkFree],rfl,I2.bare,Un.laid old (HY _) hf0,#[_,hns₁,λi x v e1 e2 e3=>?_],λx c e=>?_,?_,λx c e=>?_,λp hp=>absurd (show p∈([]:List (L6×Obj)) from hp) 0x6,?_,?_]
   . rcases (f2 b hb).2.2.2.1 with z|z
     . exact I2.ok.noex b o e z
     . exact absurd (IB (IB (Hm e) I2.ok.bsz) z) (Ia _)
   . rcases Hh.mp (I2.stkSub b z) with q|q
     . exact(f2 b hb).2.1 q
     . exact(f2 b hb).2.2.1 q
   . have e1:N'[i]?=⇑x:=e1;unfold bu at e2;rw[Hk] at e2;cases q:js[i]? with
     | none=>rw[q] at e2; cases e2
     | some o =>
       rw[q] at e2;cases o with
       | none=>cases e2
       | some j =>
         have e2:(σ[j]?).join=⇑v:=↑e2
         have e2':σ[j]?=⇑⇑v:=by
           cases z:σ[j]? with
           | none=>rw[z] at e2; cases e2
           | some a=>rw[z] at e2; cases a with
             | none=>cases e2
             | some a=>cases e2; rfl
         let#[hN,hk,hsf]:=O.slots i j x q e1;let#[m,hn,hl]:=I2.loc;let#[u,r,l]:=hl j x v hN e2' (.inr hk);show#[u,r,?_];have hkX:X.env.kindOf x=some .cell\/X.env.kindOf x=some .free:=hk;rcases l with⟨k,_⟩|⟨k,c,hc',hcell⟩
         . rcases hkX with z|z
           . rw[k] at z; cases z
           . rw[k] at z; cases z
         . have hky:(relabel scope X.env).names.lookup x=some .cell\/(relabel scope X.env).names.lookup x=some .free:=tW (env:=X.env) scope.names x hsf;let#[c2,hc2]:=hasC x hky;have:c2=c:=by have:=sub x c2 hc2;rw[hc'] at this;exact(Option.some.inj this).symm
           subst this;let#[ob,ho,hd]:=hcell;exact .inr #[hky,c2,hc2,ob,old _ _ ho,hd]
   . let#[v,ob,ho,hd]:=I2.cell x c (sub x c e);show#[v,ob,old _ _ ho,hd]
   . show upd H2 s2.heap.objs.size (.lst []) B.objs.size=none;rw[aM (Ne.symm hDC)];exact I2.hok.fresh hCle
   . let#[v,ob,ho,hd]:=I2.cell x c (sub x c e);rw[aM (IG (Hm ho))];exact I2.freeC x c (sub x c e)
   . exact I2.hok.laid old (HY _) #[Hw _,[],(0),.nil,hacc]
   . unfold bu;rw[HS];exact O.len
 have hcl:(bu js σ).length=js.length:=by unfold bu; rw[HS]
 have fin:∀{σ':St} {H':Hp} {s':L5},Inv (cy X N' scope B.objs.size s2 H2 fp) [] σ' H' s'->Q ↥s2.heap.objs.size H'->compPost 0x2 X.A X.xe use Q' ↥s2.heap.objs.size B.objs.size (.ok .next) s' :=
   λ{σ' H' s'} J q=>hfin s2 H2 fp B.objs.size I2 f2 hCle σ' H' s' J q
 have loop:∀t,codeAny 0x2 X.A (.compLoop (.ListComp elt [⟨target,iter,ifs,0⟩] scope pos) 0 ↥it ↥s2.heap.objs.size (compEnvC scope (dU scope.names X.env.cells []) B.objs.size X.env))
     (compPost 0x2 X.A X.xe use Q' ↥s2.heap.objs.size B.objs.size) { s2 with heap:=h₁,toks:=t }:=by
   intro t;have stat:∀{H':Hp},(∀b∈fp,H' b=none)->∀b∈fp,dq (cy X N' scope B.objs.size s2 H2 fp) [] H' b:=λhn b hb =>
     #[hn b hb,IG (IB (fpO b hb) hCle),(IY t).ok.exfs b hb,.inl hb,λx c e=>((IY t).ok.exf b hb).2 x c e,λp hp=>absurd (show p∈([]:List (L6×Obj)) from hp) 0x6]
   refine CH (λn s'=>∃i acc H',Inv (cy X N' scope B.objs.size s2 H2 fp) [] (bu js σ) H' s'/\tn i s'.heap/\(∀b∈fp,H' b=none)/\W i n acc H') ?_ m0
     #[(0),[],_,IY t,T.keep 0 _ _ gj (λb _ o e=>old b o e),λb hb=>by rw[aM (IG (fpO b hb))]; exact(f2 b hb).1,w0]
   rintro n s3 ⟨i,acc,H3,I3,st3,fr3,w3⟩;let#[hD,turn]:=turn i n acc H3 w3;rcases turn with⟨stop,qn⟩|⟨go,hlen,N,hN,step⟩
   . refine aQ (T.done (cy X N' scope B.objs.size s2 H2 fp) rfl rfl rfl hc i [] s3 (bu js σ) H3 (λ_ _=>False) I3 (stat fr3) st3 stop) λr s4 z97_=>?_;let#[hr,I4]:=z97_;subst hr;exact fin I4 qn
   . refine aQ (T.item (cy X N' scope B.objs.size s2 H2 fp) rfl rfl rfl hc i [] s3 (bu js σ) H3 (λ_ _=>False) I3 (stat fr3) st3 go) λr s4 z98_=>?_;let#[u,hr,h4]:=z98_;subst hr;refine aQ h4 λ_ s5 z99_=>?_;let#[x,H5,I5,r5,y5,st5,fr5]:=z99_;have I5':=I5.pinned (stat fr5) (T.obj _ _ st5);refine aQ (hg _ _ _ _ _ s5 (bu js σ) H5 x u _ I5' r5 (ho x (bu js σ) H5 _ hcl (step x H5 y5))) λ_ s6 z100_=>?_;let#[σ6,H6,I6,q6,hl6,hk6]:=z100_;refine aQ (hif _ _ _ _ _ s6 σ6 H6 _ I6 q6) λok s7 z101_=>?_;let#[H7,I7,q7]:=z101_;have again:∀{H8:Hp} {acc8:List V} {s8:L5},Inv (cy X N' scope B.objs.size s2 H2 fp) ([]++kP fp s5.heap) σ6 H8 s8->N acc8 H8 ->
         ∃m,m<n/\∃i acc H',Inv (cy X N' scope B.objs.size s2 H2 fp) [] (bu js σ) H' s8/\tn i s8.heap/\(∀b∈fp,H' b=none)/\W i m acc H':=by
       intro H8 acc8 s8 I8 n8;let#[m',hm,w8]:=hN acc8 H8 n8;show#[m',hm,i+1,acc8,H8,?_,T.keep _ _ _ st5 λb hb o e=>(I8.pin (b,o) (Hz _ (Hz _ (mT hb e)))).1,λb hb=>?_,w8]
       . refine Inv.weak I8.unpinned (by rw[hl6,hcl]) λk v e=>?_;have e':=e;unfold bu at e;rw[Hk] at e;cases q:js[k]? with
         | none=>rw[q] at e; cases e
         | some o =>
           cases o with
           | none=>rw[q] at e; cases e
           | some j=>rw[hk6 k j q]; exact e'
       . let#[o,e,d]:=T.obj _ _ st5 b hb;exact(I8.pin (b,o) (Hz _ (Hz _ (mT hb e)))).2.1
     cases ok with
     | false=>exact again I7 q7
     | true =>
       refine aQ (he _ _ _ _ _ s7 σ6 H7 _ I7 q7) λy s8 z102_=>?_;let#[yv,H8,I8,r8,hD8,q8]:=z102_;refine aQ (jO _ s8 σ6 H8 ↥s2.heap.objs.size [yv] ↥s2.heap.objs.size [y] (λ_ H9=>N (acc++[yv]) H9) I8 rfl (.cons r8 .nil) #[_,acc,yv,7,hD8,hlen,q8]) λ_ s9 z103_=>?_;let#[_,H9,I9,_,q9]:=z103_;exact again I9 q9
 exact codeAny_compStart_list (loop _) (T.self X.A 0 _ _ _ (T.keep 0 _ _ gj (λb _ o e=>old b o e)) (loop _))
def dL {g:TG} (hok:kE scope X.env.scope N' X.N js=true) (hc:X.calm=true)
   (hi:PI X target iter wi) (ho:kg js g) (hg:∀C s H fp,PG (cy X N' scope C s H fp) target g) (hif:∀C s H fp,kI (cy X N' scope C s H fp) ifs tif) (he:∀C s H fp,PE (cy X N' scope C s H fp) elt te)
   (hs:∀x,foldedSetIterable iter X.env x=pure x:=by intro _; rfl):PE X (.ListComp elt [#[target,iter,ifs,(0)]] scope pos) (oq wi g tif te js):=by
 intro pins s σ H Q I h;rw[eval_ListComp];refine wU (use:=none) hok hc hi ho hg hif he hs I h λs2 H2 fp C I2 f2 hCle σ' H' s' J q=>?_;let#[m,hn,_]:=J.loc;show#[m,hn,λh' hs'=>#[↥s2.heap.objs.size,H',?_,rfl,q]];refine I2.call' (s':={ s' with heap:=h' }) (ch:=fp) J.os (J.base.sameBut hs' hCle) (λb ob e=>?_) J.bare λb hb=>#[(f2 b hb).2.2.2.1,(f2 b hb).2.1,(f2 b hb).2.2.2.2.1,(f2 b hb).2.2.2.2.2]
 refine(J.hok b ob e).stay (λc w' hc q=>(hs'.2 c ?_)\q) (λ_ q=>q) λ_ _ q=>q;have hfree:H' C=none:=J.free;intro hcC;rw[hcC] at hc;rcases hc with z|z
 . rw[<- z,hfree] at e; cases e
 . rw[hfree] at z; cases z
def mV {i:Nat} {y:Str} {py spos:Pos}{g:TG} (hN:X.N.Nodup) (hi':X.N[i]?=⇑y) (hx:jS X.env.scope y)
   (hok:kE scope X.env.scope N' X.N js=true) (hc:X.calm=true)
   (hi:PI X target iter wi) (ho:kg js g) (hg:∀C s H fp,PG (cy X N' scope C s H fp) target g) (hif:∀C s H fp,kI (cy X N' scope C s H fp) ifs tif) (he:∀C s H fp,PE (cy X N' scope C s H fp) elt te)
   (hsw:swapsWith (.ListComp elt [#[target,iter,ifs,(0)]] scope pos) ⇑(.Name y py) spos.line X.env=pure true)
   (hs:∀x,foldedSetIterable iter X.env x=pure x:=by intro _; rfl) (hf:X.fn y=true\/X.env.scope.names.lookup y=some .local:=by first|exact .inl rfl|exact .inr rfl|assumption) :
   PS X (.Assign [.Name y py] (.ListComp elt [#[target,iter,ifs,(0)]] scope pos) spos) (mG (oq wi g tif te js) (fQ i)):=by
 intro pins s σ H D I h;rw[exec_Assign_Name_used _ _ _ _ hsw];refine HR (Jr (HR ?_));show wpAny _ X.A (do let _ <- comprehension (.ListComp elt [⟨target,iter,ifs,0⟩] scope pos) scope X.env _ (newList []) false (eval iter X.env) ⇑(assign (.Name y py) X.env)) _ _ s;refine HR (aQ (wU (use:=⇑(assign (.Name y py) X.env)) (Q':=λ_ s'=>SP X pins D .next s') hok hc hi ho hg hif he hs I h λs2 H2 fp C I2 f2 hCle σ' H' s' J q=>?_) λ_ s' q=>?_)
 . let#[m,hn,_]:=J.loc;have I3:Inv X pins σ H' s':=I2.call' (ch:=fp) J.os J.base J.hok J.bare λb hb=>#[(f2 b hb).2.2.2.1,(f2 b hb).2.1,(f2 b hb).2.2.2.2.1,(f2 b hb).2.2.2.2.2]
   have hCL:C≠X.env.locals:=λz=>absurd (IB I2.lt hCle) (by rw[z]; exact Ia _);have hCc:∀x c,X.env.cells.lookup x=⇑c->c≠C:=λx c e z=>by let#[v,ob,ho,_]:=I2.cell x c e;exact absurd (IB (Hm ho) hCle) (by rw[z]; exact Ia _)
   have hCp:∀p∈X.pn++pins,p.1≠C:=λp hp z=>by have e:=(I2.pin p hp).1;exact absurd (IB (Hm e) hCle) (by rw[z]; exact Ia _)
   show wpAny _ X.A (assign (.Name y py) X.env ↥s2.heap.objs.size) _ _ s';refine wpAny_assign_Name (tu I3 hN hi' hx (v:=↥s2.heap.objs.size) rfl (λs'' I4 z104_=>?_) hf);let#[a,hsb,ha]:=z104_;have hna:C≠a:=by
     rcases ha with z|z
     . rw[z]; exact hCL
     . exact(hCc _ _ z).symm
   show#[m,hn.sameBut hsb hna,λh' hs'=>#[_,H',?_,q]];exact I4.turned (t':=s''.toks) (h':=h') (it:=C) (λb o hb e=>(hs'.2 b hb)\e) J.free hCL (.inr (Hu I2.sz hCle)) hCc hCp
 . exact Ha (Ha q)
variable {p:L6}
section
variable {g:TG} {tif:TT} {te:TE} {js:List (Hl Nat)} {σ:St} {H:Hp} {Q:VK}
abbrev oS (g:TG) (tif:TT) (te:TE) (σ:St) (p:L6) (acc:List V) (N:List V->Hp->Prop) (x:V) (H:Hp):Prop :=
 g x σ H λσ2 H3=>tif σ2 H3 λc H4=>if c=true then te σ2 H4 λy H5=>H5 p=⇑(.lst acc)/\N (acc++[y]) (upd H5 p (.lst (acc++[y]))) else N acc H4
def nP {lo:Int} {n:Nat} (hn:n<=1000000) (Pv:Nat->List V->Hp->Prop) (h0:Pv 0 [] (upd H p (.lst [])))
   (hl:∀i acc H2,i<=n->Pv i acc H2->H2 p=⇑(.lst acc)/\acc.length<=i)
   (hs:∀i acc H2,i<n->Pv i acc H2->oS g tif te (bu js σ) p acc (Pv (i+1)) (.int (lo+i)) H2) (hd:∀acc H2,Pv n acc H2->Q ↥p H2) :
   gW (gO lo n) g tif te js σ Q p H:=by
 show#[λi m acc H=>m=n - i/\i<=n/\Pv i acc H,#[n,by simp,Hw _,h0],?_];rintro i m acc H2 ⟨rfl,hi,q⟩;let#[q1,q2]:=hl i acc H2 hi q;show#[q1,?_];by_cases hlt:i<n
 . refine .inr #[hlt,?_,Pv (i+1),λacc' H' p'=>#[n - (i+1),∅,rfl,hlt,p'],λx H' y=>?_]
   . have:(1000000:Nat)<sizeLine:=by decide
     lia
   . let#[e,y]:=y;subst e y;exact hs i acc _ hlt q
 . have e:i=n:=by lia
   subst e;exact .inl #[HY _,hd acc H2 q]
def qA {K:L7} {a:L6} {xs:List V} (hn:xs.length<=1000000) (Pv:Nat->List V->Hp->Prop) (h0:Pv 0 [] (upd H p (.lst [])))
   (hl:∀i acc H2,i<=xs.length->Pv i acc H2->H2 p=⇑(.lst acc)/\acc.length<=i/\aE K H2 a xs)
   (hs:∀i x acc H2,xs[i]?=⇑x->Pv i acc H2->oS g tif te (bu js σ) p acc (Pv (i+1)) x H2) (hd:∀acc H2,Pv xs.length acc H2->Q ↥p H2) :
   gW (i9 K a) g tif te js σ Q p H:=by
 show#[λi m acc H=>m=xs.length - i/\i<=xs.length/\Pv i acc H,#[xs.length,by simp,Hw _,h0],?_];rintro i m acc H2 ⟨rfl,hi,q⟩;let#[q1,q2,q3]:=hl i acc H2 hi q;show#[q1,?_];by_cases hlt:i<xs.length
 . refine .inr #[#[xs,xs[i],q3,by simp [hlt]],?_,Pv (i+1),λacc' H' p'=>#[xs.length - (i+1),∅,rfl,hlt,p'],λx H' y=>?_]
   . have:(1000000:Nat)<sizeLine:=by decide
     lia
   . let#[e,y]:=y;subst e;exact hs i x acc _ (y xs q3) q
 . have e:i=xs.length:=by lia
   subst e;exact .inl #[#[xs,q3,HY _],hd acc H2 q]
def qD {K:L7} {a:L6} {xs:List V} (hn:xs.length<=1000000) (Pv:Nat->List V->Hp->Prop) (h0:Pv 0 [] (upd H p (.lst [])))
   (hl:∀i acc H2,i<=xs.length->Pv i acc H2->H2 p=⇑(.lst acc)/\acc.length<=i/\aG K H2 a xs)
   (hs:∀i x acc H2,xs[i]?=⇑x->Pv i acc H2->oS g tif te (bu js σ) p acc (Pv (i+1)) x H2) (hd:∀acc H2,Pv xs.length acc H2->Q ↥p H2) :
   gW (iJ K a) g tif te js σ Q p H:=by
 show#[λi m acc H=>m=xs.length - i/\i<=xs.length/\Pv i acc H,#[xs.length,by simp,Hw _,h0],?_];rintro i m acc H2 ⟨rfl,hi,q⟩;let#[q1,q2,q3]:=hl i acc H2 hi q;show#[q1,?_];by_cases hlt:i<xs.length
 . refine .inr #[#[xs,xs[i],q3,by simp [hlt]],?_,Pv (i+1),λacc' H' p'=>#[xs.length - (i+1),∅,rfl,hlt,p'],λx H' y=>?_]
   . have:(1000000:Nat)<sizeLine:=by decide
     lia
   . let#[e,y]:=y;subst e;exact hs i x acc _ (y xs q3) q
 . have e:i=xs.length:=by lia
   subst e;exact .inl #[#[xs,q3,HY _],hd acc H2 q]
end
section
variable {X:Cx}
def Go {h:Heap} {sl:L6} {vl vu:K'} {lo hi:Hl Int} (hs:h.IsSliceOf sl vl vu .none) (pl:IsPart vl lo) (pu:IsPart vu hi):∃l u:Hl (Int×Tok),l.map (·.1)=lo/\u.map (·.1)=hi/\h.IsSlice sl l u none:=by
 let#[o,ho,hc,hd]:=hs;cases pl with
 | none =>
   cases pu with
   | none=>show#[none,none,7,o,ho,hc,hd]
   | int j t=>show#[none,⇑(j,t),7,o,ho,hc,hd]
 | int i t =>
   cases pu with
   | none=>show#[⇑(i,t),none,7,o,ho,hc,hd]
   | int j t'=>show#[⇑(i,t),⇑(j,t'),7,o,ho,hc,hd]
abbrev zg:V->Hl Int->Hl Int->Hp->VK->Prop:=λx lo hi H Q=>∃z,x=.str z/\z.length<=sizeLine/\Q (.str (Txt.slice z lo hi)) H
def pb:fq X zg:=by
 intro pins s σ H x v vl vu lo hi sl Q I rx hs pl pu h;let#[z,rfl,hz,q]:=h;let#[t,rfl]:=rx;let#[l,u,rfl,rfl,hsl]:=Go hs pl pu;show#["str",_,F.slot_str_getitem.lookup,typeIs_str _ _ _,wpAny_getItem_str_slice (l:=l) (u:=u) (st:=none) hsl rfl
   (post_val_or_str #[Hu (Txt.slice_le z _ _) hz,λt' k=>#[.str (Txt.slice z (l.map (·.1)) (u.map (·.1))),H,I.tok _,#[5],q]])]
def m6 {ys:List Str}:∀{us:List K'},aU (ys.map V.str) us->StrsAre us ys:=by
 induction ys with
 | nil=>intro us h; cases h; exact .nil
 | cons y r ih =>
   intro us h;cases h with
   | cons r1 h =>
     let#[t,rfl]:=r1;exact .cons y t (ih h)
abbrev Cd (K:L7):V->List V->Hp->VK->Prop:=λx xs H Q=>∃sep p ys,x=.str sep/\xs=[↥p]/\aE K H p (ys.map V.str)/\(ys.map (·.length)).sum+ys.length * sep.length<=16777216/\Q (.str (Txt.join sep ys)) H
def vF:nZ X "str.join" (Cd X.K):=by intro pins s σ H x xs v us Q I rx r h;let#[sep,p,ys,rfl,rfl,hp,hl,q]:=h;let#[t,rfl]:=rx;let#[u,rfl,ru]:=gP r;cases (show u=Value.ref p from ru);let#[its,rv,pl,hz]:=I.list hp;exact join_list pl.isList (by simpa using m6 rv) hl λt' k=>#[.str (Txt.join sep ys),H,I.tok _,#[5],q]
def kM:ao X (.builtin "isinstance") (λxs H Q=>∃x c t b,xs=[x,.ty c]/\TyOf X.K H x t/\PySem.W.kitOne X.K t (.type c)=⇑b/\Q (.bl b) H):=by intro pins s σ H xs us Q I r h;let#[x,c,t,b,rfl,ty,hk,q]:=h;let#[u,w',rfl,rx,rc]:=oW r;cases (show w'=Value.type c from rc);exact tM I rx ty hk λtk=>#[.bl b,H,I.tok _,rfl,q]
end
abbrev kR:Expr->Hl V
 | .Constant (.str x) _ _=>⇑(.str x)
 | .Constant (.int i) _ _=>⇑(.int i)
 | .Constant (.bool b) _ _=>⇑(.bl b)
 | .Constant .none _ _=>some .non
 | _=>none
abbrev nW:List Expr->Hl (List V)
 | []=>⇑[]
 | e::r=>match kR e,nW r with
   | some v,⇑vs=>⇑(v::vs)
   | _,_=>none
def Db {e:Expr} {v:V} (h:kR e=⇑v):PE X e (tC v):=by
 unfold kR at h;split at h
 . cases h; exact ah
 . cases h; exact aJ
 . cases h; exact bW
 . cases h; exact eE
 . cases h
def Bk {e:Expr} {es:List Expr} {v:V} (h:kR e=⇑v):starEach (e::es) X.env=(false,eval e X.env)::starEach es X.env:=by unfold kR at h;split at h <;> first|rfl|cases h
def tY {X:Cx}:∀{es:List Expr} {vs:List V},nW es=⇑vs->PA X es (λ_ H Q=>Q vs H)
 | [],vs,h=>by cases h;exact aD
 | e::r,vs,h=>by
   unfold nW at h;split at h
   . rename_i v vs' h1 h2
     cases h;exact aN (Db h1) (tY h2) (Bk h1)
   . cases h
def aB.tup {K:L7} {H H':Hp} {a:L6} {xs:List V} (e:aB H H') (h:aG K H a xs):aG K H' a xs:=by
 rcases h with(h|⟨o,h⟩)|h
 . exact .inl (.inl (e _ _ h))
 . exact .inl (.inr #[o,e _ _ h])
 . exact .inr h
def aB.new {o:HO} (h:H p=none):aB H (upd H p o):=λb u e=>by rw[aM (cP e h)];exact e
def aB.upd {H':Hp}{o:HO} (e:aB H H') (h:H p=none):aB H (upd H' p o):=λb u q=>by rw[aM (cP q h)];exact e b u q
structure DefOk (K:W.Frag) (mg:Str->Option Value) (name:Str) (st:Stmt) (ps:List Str) (f:Addr) (fd:FuncData):Prop where
 F:Fun K name name st f fd
 g:mg name=⇑↥f
 b:d9 K fd ps []
section
variable {X:Cx} {k:Nat} {f:L6} {fd:FuncData} {ps:List Str} {sp:Sp} {x:Str} {st:Stmt} {p pos:Pos} {e:Expr} {es:List Expr} {t:TA}
def fe (D:DefOk X.K X.mg x st ps f fd) (G:FnOk X.prog X.w X.K X.mg X.base CX0 k f fd ps sp) (hr:Room k X.A) (ha:PA X (e::es) t) (hg:Gl X x:=by rfl)
   (hdb:(x==("__debug__":Str))=false:=by decide) (he:starEach (e::es) X.env=(false,eval e X.env)::starEach es X.env:=by rfl) (hpl:(backTo pos (starEach es X.env)).any (·.1)=false:=by rfl) :
   PE X (.Call (.Name x p) (e::es) [] pos) (mU sp [] E0 t):=DD G hr hg D.g D.F.kp D.b .nil bM ha hdb he hpl
def qh {z:Int} (h:∃t,X.mg x=⇑(.int z t)) (hg:Gl X x:=by rfl) (hd:(x==("__debug__":Str))=false:=by decide):PE X (.Name x pos) (tC (.int z)):=by let#[t,h]:=h;exact qr hg h #[t,rfl] hd
def iI {a:L6} (h:X.mg x=⇑↥a) (hg:Gl X x:=by rfl) (hd:(x==("__debug__":Str))=false:=by decide):PE X (.Name x pos) (tC ↥a):=qr hg h rfl hd
end
def bf {K:L7} {mg:Str->Hl K'} {h:Heap} {name:Str} {st:Stmt} {ps:List Str} {f:L6} {oc:K'} {od an:Hl L6} {osl:Array (Hl K')} {kV doc pm cdv ct:K'} (X:K.In h) (G:h.Ns mainGlobals mg)
   (a:PySem.W.nsIn K mainGlobals name=⇑⇑↥f) (l:K.lookup f=⇑#[oc,od,.func (PySem.W.fnOf name name (cz st) (aP st) (aS st) .none kV doc pm an cdv ct),osl]) (c:PySem.W.codeIn K cdv name=true) (k:PySem.W.keepIn K ↥f=true)
   (b:∀(kV doc pm:K') (an:Hl L6) (cdv ct:K') (us:List K'),us.length=ps.length->bindArgs (PySem.W.fnOf name name (cz st) (aP st) (aS st) .none kV doc pm an cdv ct) #[us,[]]=pure (ps.zip us)) :
   DefOk K mg name st ps f (PySem.W.fnOf name name (cz st) (aP st) (aS st) .none kV doc pm an cdv ct) :=
 #[gn l c k,PySem.W.mg_of X G a,(gn l c k).binds b]
def uY {α:Type} {xs:List α} {i:Int} (h0:0<=i) (h1:i<xs.length):∃v,am xs i=⇑v/\v∈xs:=by
 have hi:i.toNat<xs.length:=by lia
 show#[xs[i.toNat],?_,IT hi];have:=bp (xs:=xs) (j:=i.toNat) (v:=xs[i.toNat]) (by simp [hi]);have e:((i.toNat:Nat):Int)=i:=by lia
 rwa [e] at this
def Bm {ns:List Int} {i:Int} (h0:0<=i) (h1:i<ns.length):∃z,am (ns.map V.int) i=⇑(.int z):=by let#[v,e,hv]:=uY (xs:=ns.map V.int) h0 (by rw[HS]; exact h1);let#[z,_,rfl]:=IJ.mp hv;show#[z,e]
def bC {p:Prop} [Decidable p] (h:decide p=true):p:=Ij h
def ag {c A B:Prop} [Decidable c] (hc:c) (h:A):if c then A else B:=by rw[He hc];exact h
def aa {c A B:Prop} [Decidable c] (hc:¬ c) (h:B):if c then A else B:=by rw[HX hc];exact h
end L2
namespace L2
open PySem
def bQ:bootBuiltins "len"=⇑(.builtin "len"):=by decide +kernel
def dg:bootBuiltins "isinstance"=⇑(.builtin "isinstance"):=by decide +kernel
def D7:bootBuiltins "sum"=⇑(.builtin "sum"):=by decide +kernel
def vD:bootBuiltins "str"=⇑(.type "str"):=by decide +kernel
def oC:bootBuiltins "int"=⇑(.type "int"):=by decide +kernel
def Fz:bootBuiltins "bool"=⇑(.type "bool"):=by decide +kernel
def j5:bootBuiltins "list"=⇑(.type "list"):=by decide +kernel
def gQ:bootBuiltins "tuple"=⇑(.type "tuple"):=by decide +kernel
def wR:bootBuiltins "dict"=⇑(.type "dict"):=by decide +kernel
def GL:bootBuiltins "enumerate"=⇑(.type "enumerate"):=by decide +kernel
def EN:bootBuiltins "zip"=⇑(.type "zip"):=by decide +kernel
def FK {b:Bool} (h:b=false):¬ b=true:=by rw[h]; decide
end L2
namespace L2
open PySem PySem.Spec PyProof.Rows
mutual
noncomputable def bN (K:L7) (H:Hp):PyData->V->Prop
 | .none,v=>v=.non
 | .bool b,v=>v=.bl b
 | .int i,v=>v=.int i
 | .str x,v=>v=.str x
 | .list ds,v=>∃a xs,v=↥a/\aE K H a xs/\cN K H ds xs
 | .tuple ds,v=>∃a xs,v=↥a/\aG K H a xs/\cN K H ds xs
 | .dict _,_=>False
noncomputable def cN (K:L7) (H:Hp):List PyData->List V->Prop
 | [],xs=>xs=[]
 | d::ds,xs=>∃x r,xs=x::r/\bN K H d x/\cN K H ds r
end
section
variable {X:Cx} {pins:List (L6×Obj)} {σ:St} {H:Hp} {s:L5}
mutual
theorem jj (I:Inv X pins σ H s):∀(d:PyData) (v:V) (u:K'),bN X.K H d v->aX v u->∃as,Reads s.heap u d as
 | .none,v,u,h,r=>by unfold bN at h;subst h;cases (show u=Value.none from r);show#[_,.none]
 | .bool b,v,u,h,r=>by unfold bN at h;subst h;cases (show u=Value.bool b from r);show#[_,.bool b]
 | .int i,v,u,h,r=>by
   unfold bN at h;subst h;let#[t,rfl]:=(show ∃t,u=Value.int i t from r)
   show#[_,.int i t]
 | .str x,v,u,h,r=>by
   unfold bN at h;subst h;let#[t,rfl]:=(show ∃t,u=Value.str x t from r)
   show#[_,.str x t]
 | .list ds,v,u,h,r=>by unfold bN at h;let#[a,xs,rfl,hq,hd]:=h;cases (show u=Value.ref a from r);obtain⟨its,rv,⟨o,n,ho,hc,_,hdt⟩,_⟩:=I.list hq;let#[as,ra]:=pW I ds xs its hd rv;show#[_,.list ho hc hdt ↑ra]
 | .tuple ds,v,u,h,r=>by unfold bN at h;let#[a,xs,rfl,hq,hd]:=h;cases (show u=Value.ref a from r);obtain⟨its,rv,⟨o,ho,hc,n,hdt⟩,_⟩:=I.tuple hq;let#[as,ra]:=pW I ds xs its hd rv;show#[_,.tuple ho hc hdt ↑ra]
 | .dict _,v,u,h,r=>by unfold bN at h;exact h.elim
theorem pW (I:Inv X pins σ H s):∀(ds:List PyData) (xs:List V) (us:List K'),cN X.K H ds xs->aU xs us->∃as,ReadsAll s.heap us ds as
 | [],xs,us,h,r=>by unfold cN at h;subst h;cases r;show#[_,.nil]
 | d::ds,xs,us,h,r=>by
   unfold cN at h;let#[x,rest,rfl,hd,hds]:=h;cases r with
   | cons r1 r2 =>
     let#[as,ra]:=jj I d _ _ hd r1;let#[bs,rb]:=pW I ds _ _ hds r2;show#[_,.cons ra rb]
end
end
abbrev p9 (K:L7):R2:=λx y H Q=>∃d e,bN K H d x/\bN K H e y/\SeqAt.shaped d=true/\SeqAt.shaped e=true/\Q (.bl (PyData.eqv d e)) H
abbrev rY (K:L7):R2:=λx y H Q=>∃d e,bN K H d x/\bN K H e y/\SeqAt.shaped d=true/\SeqAt.shaped e=true/\Q (.bl (!PyData.eqv d e)) H
variable {X:Cx}
def AC (hu:X.A.units+64<cLine):bP X (compareOp .Eq) (p9 X.K):=by intro pins s σ H x y v u Q I rx ry h;let#[d,e,hd,he,sd,se,q]:=h;let#[as,ra]:=jj I d x v hd rx;let#[bs,rb]:=jj I e y u he ry;exact SeqAt.compareEq_shaped ra rb sd se hu #[.bl _,H,I,rfl,q]
def vU (hu:X.A.units+64<cLine):bP X (compareOp .NotEq) (rY X.K):=by intro pins s σ H x y v u Q I rx ry h;let#[d,e,hd,he,sd,se,q]:=h;let#[as,ra]:=jj I d x v hd rx;let#[bs,rb]:=jj I e y u he ry;exact SeqAt.compareNe_shaped ra rb sd se hu #[.bl _,H,I,rfl,q]
section
variable {prog:Program} {w:World} {A:Around} {E:K'->L5->Prop}
def uX {it t:L6} {items:Array K'} (hne:t≠it):∀(n i:Nat) (s:L5) (Q:List K'->L5->Prop),s.heap.IsListIter it t i->s.heap.IsList t items->i+n<=items.size ->
   (∀h',h'.IsListIter it t (i+n)->Heap.SameBut it s.heap h'->Q ((items.toList.drop i).take n) { s with heap:=h' })->wpAny 0x3 A (draw ↥it n) Q E s
 | 0,i,s,Q,hit,_,_,hQ=>by show wpAny _ _ (pure []) Q E s;exact Ha (by simpa using hQ s.heap hit (Heap.SameBut.refl ..))
 | n+1,i,s,Q,hit,ht,hle,hQ=>by
   have hlt:i<items.size:=by lia
   show wpAny _ _ (pyNext ↥it >>= _) Q E s;refine HR (K4 hit ht (x:=items[i]) (by simp [hlt]) λh₁ hit₁ hs₁=>?_);refine HR (IW (uX hne n (i+1) _ _ hit₁ (ht.extBut hs₁.extBut hne) ∅ λh₂ hit₂ hs₂=>Ha ?_));have hd:items.toList.drop i=items[i]::items.toList.drop (i+1):=by simp [Kh,hlt]
   have:=hQ h₂ (by rw[show i+(n+1)=i+1+n by lia]; exact hit₂) (hs₁\hs₂);rw[hd,List.take_succ_cons] at this;exact this
def Ec {s:L5} {t:L6} {items:Array K'} {Q:List K'->L5->Prop} (hh:A.handled=none) (ht:s.heap.IsList t items)
   (hQ:∀h',Heap.ExtBut s.heap.objs.size s.heap h'->Q items.toList { s with heap:=h' }):wpAny 0x3 A (unpackItems ↥t items.size none) Q E s:=by
 have hlt:t≠s.heap.objs.size:=by let#[o,ho,_]:=ht; exact IG (Hm ho)
 unfold unpackItems;refine HR ?_;unfold notIterableAtAll;refine HR (wpAny_specialOf ht.typeIs slot_list_iter.lookup ?_);refine Ha ?_;simp only[JA,if_false];refine HR (IW (J0 ht ?_));refine HR (IW (uX hlt items.size 0 _ _ #[_,Hs _ rfl,7] (ht.push _) ∅ λh₁ hit₁ hs₁=>?_));have hall:List.take items.size (List.drop 0 items.toList)=items.toList:=by rw[Kw]; exact Ic 0x6
 rw[hall];rw[HX 0x6];have ht₁:h₁.IsList t items:=(ht.push _).extBut hs₁.extBut hlt;refine HR (IW (KB hh hit₁ ht₁ 0x6 λh₂ he₂=>?_));simp only[Option.isSome_none,JA,if_false];refine Ha (hQ h₂ λb o hb e=>he₂ b o hb (hs₁.extBut b o hb (HW _ e)))
end
abbrev A4 (K:L7) (n:Nat) (t:dz):TG:=λv σ H Q=>∃a xs,v=↥a/\aE K H a xs/\xs.length=n/\t xs σ H Q
variable {pos:Pos}
def E7 {es:List Expr} {k:Nat} {t:dz} {n:Nat} (hc:X.calm=true) (h:kU X es t)
   (hn:(assignEach es X.env).length=n:=by rfl) (hst:(assignEach es X.env).findIdx? (·.1)=none:=by rfl):PG X (.Tuple es k pos) (A4 X.K n t):=by
 intro pins s σ H v u Q I r hw;let#[a,xs,e1,hq,hl,hw]:=hw;subst e1;cases r;let#[its,rv,ht,hz]:=I.list hq;have hlen:=rv.length;rw[assign_Tuple];refine HR (Jr ?_);unfold unpack;rw[hst,hn,<- hl,hlen,show its.length=its.toArray.size by simp];refine HR (IW (Ec (I.ok.hd hc) ht.isList λh' hx=>?_));have I1:Inv X pins σ H { s with heap:=h' }:=I.kept (t':=s.toks) λb o e=>hx b o (IG (Hm e)) e;exact h pins _ σ H xs _ Q I1 ↑rv hw
def wQ :bP X (binaryOp .FloorDiv) (rI (λ_ j=>0<j/\j<2 ^ 64) λi j=>.int (i / j)):=kX λi j _ _ _ _ _ hc q=>by
 have h1:(0:Int)<j:=hc.1;have h2:j<2 ^ 64:=hc.2;refine floordiv_int ∅ (by rw[KZ i ∅]; exact q) (.inl (PyProof.noPylong_of_log2 ?_));have h0:j.natAbs≠0:=by lia
 refine Nat.lt_trans (m:=64) ((Nat.log2_lt h0).mpr ?_) #[];have:(2:Int) ^ 64=((2 ^ 64:Nat):Int):=by decide
 lia
section
variable {κ:Type} [DecidableEq κ]
abbrev aq (kvs:List (κ×V)) (k:κ):Hl V:=(kvs.find? λkv=>decide (kv.1=k)).map (·.2)
abbrev putK (kvs:List (κ×V)) (k:κ) (v:V):List (κ×V) :=
 if(kvs.any λkv=>decide (kv.1=k))=true then kvs.map (λkv=>if kv.1=k then(kv.1,v) else kv) else kvs++[(k,v)]
def eg {p:κ×V} {r:List (κ×V)} {k:κ} (e:p.1=k):aq (p::r) k=⇑p.2:=by simp [aq,Jg,e]
def fE {p:κ×V} {r:List (κ×V)} {k:κ} (e:¬ p.1=k):aq (p::r) k=aq r k:=by simp [aq,Jg,e]
def jM (k:κ):∀kvs:List (κ×V),(kvs.any λkv=>decide (kv.1=k))=(aq kvs k).isSome
 | []=>rfl
 | p::r=>by
   rw[K6];by_cases e:p.1=k
   . simp only[eg e,Hf e,Bool.true_or,Option.isSome_some]
   . rw[fE e,IU e,Bool.false_or]; exact jM k r
def rX (k j:κ) (y:V):∀kvs:List (κ×V),aq (kvs.map λkv=>if kv.1=k then(kv.1,y) else kv) j=(aq kvs j).map λx=>if j=k then y else x
 | []=>rfl
 | p::r=>by
   have ih:=rX k j y r;rw[IF];by_cases h:p.1=k
   . rw[He h];by_cases e:p.1=j
     . rw[eg (p:=(p.1,y)) e,eg e,KF,He (e.symm\h)]
     . rw[fE (p:=(p.1,y)) e,fE e,ih]
   . rw[HX h];by_cases e:p.1=j
     . rw[eg (p:=p) e,eg e,KF,HX (λz=>h (e\z))]
     . rw[fE (p:=p) e,fE e,ih]
def uI (k j:κ) (y:V):∀kvs:List (κ×V),aq kvs k=none->aq (kvs++[(k,y)]) j=if j=k then ⇑y else aq kvs j
 | [],_=>by
   by_cases e:k=j
   . rw[He e.symm]; exact eg (p:=(k,y)) e
   . rw[HX (λz=>e z.symm)]; exact fE (p:=(k,y)) e
 | p::r,hn=>by
   rw[List.cons_append];have hk:¬ p.1=k:=λz=>by rw[eg z] at hn; cases hn
   rw[fE hk] at hn;have ih:=uI k j y r hn;by_cases e:p.1=j
   . rw[eg e,eg e,HX (λz=>hk (e\z))]
   . rw[fE e,fE e,ih]
def cZ (kvs:List (κ×V)) (k j:κ) (y:V):aq (putK kvs k y) j=if j=k then ⇑y else aq kvs j:=by
 unfold putK;by_cases a:(kvs.any λkv=>decide (kv.1=k))=true
 . rw[He a,rX];rw[jM] at a;by_cases e:j=k
   . let#[x,hx]:=Jx.mp a;rw[He e,e,hx,KF,He rfl]
   . rw[HX e];cases aq kvs j with
     | none=>rfl
     | some x=>rw[KF,HX e]
 . rw[HX a];refine uI k j y kvs ?_;rw[jM] at a;cases q:aq kvs k with
   | none=>rfl
   | some x=>rw[q] at a; exact(a rfl).elim
def dI (kvs:List (κ×V)) (k:κ) (v:V):(putK kvs k v).length<=kvs.length+1:=by
 unfold putK;split
 . rw[HS]; lia
 . rw[HZ,II,JS]; lia
def uR {kvs:List (κ×V)} {k:κ} (v:V) (h:aq kvs k=none):putK kvs k v=kvs++[(k,v)]:=by unfold putK;rw[jM,h];exact HX #[]
def d7.isSome_eq {o:Hl V} {u:Hl K'} (r:d7 o u):o.isSome=u.isSome:=by
 cases o with
 | none=>cases u with
   | none=>rfl
   | some _=>exact(show False from r).elim
 | some _=>cases u with
   | none=>exact(show False from r).elim
   | some _=>rfl
def d7.getD {o:Hl V} {u:Hl K'} {d:V} {d':K'} (r:d7 o u) (rd:aX d d'):aX (o.getD d) (u.getD d'):=by
 cases o with
 | none=>cases u with
   | none=>exact rd
   | some _=>exact(show False from r).elim
 | some _=>cases u with
   | none=>exact(show False from r).elim
   | some _=>exact r
def KV.val {kvs:List (κ×V)} {vs:List (κ×K')} (r:KV kvs vs) (k:κ):d7 (aq kvs k) (valueAt vs k):=by
 unfold KV at r
 induction r with
 | nil=>exact True.intro
 | @cons p q ps qs h t ih =>
   let#[h1,h2]:=h;by_cases e:p.1=k
   . have e':q.1=k:=h1.symm\e;have b:valueAt (q::qs) k=⇑q.2:=by simp [valueAt,Jg,e']
     rw[eg e,b]; exact h2
   . have e':¬ q.1=k:=λz=>e (h1\z);have b:valueAt (q::qs) k=valueAt qs k:=by simp [valueAt,Jg,e']
     rw[fE e,b]; exact ih
def KV.any {kvs:List (κ×V)} {vs:List (κ×K')} (r:KV kvs vs) (k:κ):(kvs.any λkv=>decide (kv.1=k))=vs.any λkv=>decide (kv.1=k):=by
 unfold KV at r
 induction r with
 | nil=>rfl
 | cons h t ih=>rw[K6,K6,ih,h.1]
variable {u:K'} {y:V}
def KV.repl {kvs:List (κ×V)} {vs:List (κ×K')} (r:KV kvs vs) (k:κ) (ry:aX y u) :
   KV (kvs.map λkv=>if kv.1=k then(kv.1,y) else kv) (vs.map λkv=>if kv.1=k then(kv.1,u) else kv):=by
 unfold KV at r ⊢
 induction r with
 | nil=>exact .nil
 | @cons p q ps qs h t ih =>
   rw[IF,IF];refine .cons ?_ ih;let#[h1,h2]:=h;by_cases e:p.1=k
   . rw[He e,He (h1.symm\e)]; show#[h1,ry]
   . rw[HX e,HX (λz=>e (h1\z))]; show#[h1,h2]
def KV.put {kvs:List (κ×V)} {vs:List (κ×K')} (r:KV kvs vs) (k:κ) (ry:aX y u):KV (putK kvs k y) (stored vs k u):=by
 unfold putK stored;rw[r.any k];by_cases e:(vs.any λkv=>decide (kv.1=k))=true
 . rw[He e,He e]; exact r.repl k ry
 . rw[HX e,HX e]; exact Paired.snoc r #[rfl,ry]
def KV.length {kvs:List (κ×V)} {vs:List (κ×K')} (r:KV kvs vs):kvs.length=vs.length:=Paired.length r
end
variable {w:World}
def gC {P:Program} {k:aF} (r:aX (kV k) u):(br P w).is k u=true:=by
 cases k with
 | inl i=>let#[t,e]:=(show ∃t,u=Value.int i t from r); subst e; exact DZ P w i t
 | inr x=>let#[t,e]:=(show ∃t,u=Value.str x t from r); subst e; exact F9 P w x t
def uQ {P:Program} {w:World}:∀{ks:List aF} {us:List K'},aU (ks.map kV) us->ItemsAre (br P w) ks us
 | [],_,r=>by rw[List.map_nil] at r; cases r; exact .nil
 | k::ks,_,r=>by
   rw[IF] at r;cases r with
   | cons h t=>exact .cons (gC h) (uQ t)
noncomputable abbrev KT (H:Hp):List (List aF×V)->List (List aF×L6×K')->Prop:=Paired λp q=>p.1=q.1/\H q.2.1=⇑(.tup (p.1.map kV))/\aX p.2 q.2.2
variable {H:Hp}
def KT.val {kvs:List (List aF×V)} {xs:List (List aF×L6×K')} (r:KT H kvs xs) (k:List aF):d7 (aq kvs k) ((atKey xs k).map (·.2)):=by
 induction r with
 | nil=>exact True.intro
 | @cons p q ps qs h t ih =>
   let#[h1,_,h2]:=h;by_cases e:p.1=k
   . have e':q.1=k:=h1.symm\e;have b:atKey (q::qs) k=⇑q.2:=by simp [atKey,Jg,e']
     rw[eg e,b]; exact h2
   . have e':¬ q.1=k:=λz=>e (h1\z);have b:atKey (q::qs) k=atKey qs k:=by simp [atKey,Jg,e']
     rw[fE e,b]; exact ih
def KT.repl {kvs:List (List aF×V)} {xs:List (List aF×L6×K')} (r:KT H kvs xs) (k:List aF) (ry:aX y u) :
   KT H (kvs.map λkv=>if kv.1=k then(kv.1,y) else kv) (xs.map (putAt k u)):=by
 induction r with
 | nil=>exact .nil
 | @cons p q ps qs h t ih =>
   rw[IF,IF];refine .cons ?_ ih;let#[h1,h2,h3]:=h;unfold putAt;by_cases e:p.1=k
   . rw[He e,He (h1.symm\e)]; show#[h1,h2,ry]
   . rw[HX e,HX (λz=>e (h1\z))]; show#[h1,h2,h3]
def KT.put {kvs:List (List aF×V)} {xs:List (List aF×L6×K')} (r:KT H kvs xs) (k:List aF) {b:L6} (hb:H b=⇑(.tup (k.map kV))) (ry:aX y u) :
   KT H (putK kvs k y) (storedH xs k b u):=by
 have e:(kvs.any λkv=>decide (kv.1=k))=(atKey xs k).isSome:=by rw[jM,(r.val k).isSome_eq,Option.isSome_map]
 unfold putK storedH;rw[e];by_cases q:(atKey xs k).isSome=true
 . rw[He q,He q]; exact r.repl k ry
 . rw[HX q,HX q]; exact Paired.snoc r #[rfl,hb,ry]
variable {H':Hp}
def KT.keeps {kvs:List (List aF×V)} {xs:List (List aF×L6×K')} (r:KT H kvs xs) (ht:∀b ys,H b=⇑(.tup ys)->H' b=⇑(.tup ys)):KT H' kvs xs :=
 Paired.mapP r λ_ _ z=>#[z.1,ht _ _ z.2.1,z.2.2]
section
variable {P:Program} {w:World} {H:Hp} {h:Heap} {a:L6}
def vL {u:HO} (ok:az P w H h) (e:Rd H a u):bT P w H h a u:=e.ok ok
def ii {kvs:List (aF×V)} (ok:az P w H h) (e:Rd H a (.dK kvs)):kvs.length<=sizeLine/\(a==sysModules)=false/\∃vs,KV kvs vs/\h.DictOf (br P w) a vs :=
 show bT P w H h a (.dK kvs) from vL ok e
def jR {kvs:List (aF×V)} (ok:az P w H h) (e:H a=⇑(.dK kvs)):kvs.length<=sizeLine/\(a==sysModules)=false/\∃vs,KV kvs vs/\h.DictOf (br P w) a vs:=ii ok (.inl e)
def ji {ks:List aF} (ok:az P w H h) (e:H a=⇑(.tup (ks.map kV))):(tupleKind (br P w)).is h ks a:=by
 let#[_,its,r,o,h1,h2,n,h3]:=(show bT P w H h a (.tup (ks.map kV)) from ok a _ e)
 show#[o,its.toArray,n,h1,h2,h3,by simpa using uQ r]
def j0 {kvs:List (List aF×V)} (ok:az P w H h) (e:Rd H a (.dT kvs)):kvs.length<=sizeLine/\(a==sysModules)=false /\
   ∃xs,KT H kvs xs/\h.DictOfH (tupleKind (br P w)) a xs:=by
 let#[z,y,xs,r,o,es,ep,h1,h2,h3,h4,h5]:=(show bT P w H h a (.dT kvs) from vL ok e)
 show#[z,y,xs,r,o,es,ep,h1,h2,h3,h4,λx hx=>?_,h5];have all:∀{l:List (List aF×V)} {m:List (List aF×L6×K')},KT H l m->∀x∈m,(tupleKind (br P w)).is h x.1 x.2.1:=by
   intro l m q
   induction q with
   | nil=>intro x hx; exact nomatch hx
   | @cons p q ps qs hq t ih =>
     intro x hx;rcases Hh.mp hx with e|hx
     . subst e;exact ji ok (by rw[<- hq.1]; exact hq.2.1)
     . exact ih x hx
 exact all r x hx
def Dn {kvs:List (List aF×V)} (ok:az P w H h) (e:H a=⇑(.dT kvs)):kvs.length<=sizeLine/\(a==sysModules)=false /\
   ∃xs,KT H kvs xs/\h.DictOfH (tupleKind (br P w)) a xs:=j0 ok (.inl e)
end
abbrev cr (H:Hp) (a:L6) (y:V) (r:Hl V):Prop :=
 (∃kvs k,Rd H a (.dK kvs)/\y=kV k/\r=aq kvs k)\/∃kvs k b,Rd H a (.dT kvs)/\y=↥b/\H b=⇑(.tup (k.map kV))/\r=aq kvs k
abbrev cU (H:Hp) (a:L6) (y v:V) (H':Hp):Prop :=
 (∃kvs k,H a=⇑(.dK kvs)/\y=kV k/\kvs.length<sizeLine/\H'=upd H a (.dK (putK kvs k v))) \/
 ∃kvs k b,H a=⇑(.dT kvs)/\y=↥b/\H b=⇑(.tup (k.map kV))/\kvs.length<sizeLine/\H'=upd H a (.dT (putK kvs k v))
def cr.k {H:Hp} {a:L6} {kvs:List (aF×V)} {k:aF} (e:H a=⇑(.dK kvs)):cr H a (kV k) (aq kvs k):=.inl #[kvs,k,.inl e,7]
def cU.k {H:Hp} {a:L6} {kvs:List (aF×V)} {k:aF} {v:V} (e:H a=⇑(.dK kvs)) (hl:kvs.length<sizeLine):cU H a (kV k) v (upd H a (.dK (putK kvs k v))):=.inl #[kvs,k,e,rfl,hl,rfl]
section
variable {X:Cx} {pins:List (L6×Obj)} {σ:St} {H:Hp} {s:L5} {a:L6} {y v:V} {u r:K'} {o:Hl V} {A:Around} {E:K'->L5->Prop}
def Inv.big (I:Inv X pins σ H s):sysModules<s.heap.objs.size:=by have h:mainGlobals<s.heap.objs.size:=(I.mod.glob.keeps I.bk).lt;exact Nat.lt_trans #[] h
def Ed {Q:K'->L5->Prop} (hu:A.units+1<cLine) (I:Inv X pins σ H s) (g:cr H a y ⇑v) (ry:aX y u) (h:∀w' s',Inv X pins σ H s'->aX v w'->Q w' s') :
   wpAny 0x2 A (getItem ↥a u) Q E s:=by
 rcases g with⟨kvs,k,e,ey,l⟩|⟨kvs,k,b,e,ey,eb,l⟩
 . subst ey;let#[z,hd,vs,rel,dd]:=ii I.hok e;let#[w',hw,rw']:=d7.some_of (v:=v) (o:=valueAt vs k) (by rw[l]; exact rel.val k);exact wpAny_getItem_of (gC ry) dd.mapOf hw (h w' _ (I.tok _) rw')
 . subst ey;cases (show u=Value.ref b from ry);let#[z,hd,xs,rel,dd]:=j0 I.hok e;let#[w',hw,rw']:=d7.some_of (v:=v) (o:=(atKey xs k).map (·.2)) (by rw[l]; exact rel.val k);let#[p,hp,hp2]:=Option.map_eq_some_iff.mp hw;refine wpAny_getItem_heap (tupleKind_room_in1 hu) (ji I.hok eb) dd hp ?_;rw[hp2];exact h w' _ (I.tok _) rw'
def GB {Q:K'->L5->Prop} (hu:A.units+1<cLine) (I:Inv X pins σ H s) (g:cr H a y o) (ry:aX y u) (h:∀s',Inv X pins σ H s'->Q (.bool o.isSome) s') :
   wpAny 0x2 A (compareOp .In u ↥a) Q E s:=by
 rcases g with⟨kvs,k,e,ey,l⟩|⟨kvs,k,b,e,ey,eb,l⟩
 . subst ey;let#[z,hd,vs,rel,dd]:=ii I.hok e;refine wpAny_in_of (gC ry) hd dd.mapOf ?_;rw[<- (rel.val k).isSome_eq,<- l];exact h _ (I.tok _)
 . subst ey;cases (show u=Value.ref b from ry);let#[z,hd,xs,rel,dd]:=j0 I.hok e;refine wpAny_in_heap (tupleKind_room_in1 hu) (ji I.hok eb) hd dd ?_;have q:=(rel.val k).isSome_eq;rw[Option.isSome_map] at q;rw[<- q,<- l];exact h _ (I.tok _)
def ir {h':Heap} {t':Nat} {ob:HO} (I:Inv X pins σ H s) (mu:kJ (H a)) (hs:Heap.SameBut a s.heap h') (he:∃q,h'.get? a=⇑q) (new:bT X.prog X.w (upd H a ob) h' a ob) :
   Inv X pins σ (upd H a ob) { s with heap:=h',toks:=t' } :=
 I.write (x:=a) (e:=a) mu (.inl rfl) (λb q hb z=>(hs.2 b hb)\z) he new
def jh {P:Program} {h':Heap} {kvs:List (aF×V)} {vs:List (aF×K')} (z:kvs.length<=sizeLine) (hd:(a==sysModules)=false) (rel:KV kvs vs) (dd:h'.DictOf (br P w) a vs) :
   bT P w H' h' a (.dK kvs):=#[z,hd,vs,rel,dd]
def ER {Q:Unit->L5->Prop} (hu:A.units+1<cLine) (I:Inv X pins σ H s) (g:cU H a y v H') (ry:aX y u) (rv:aX v r) (h:∀s',Inv X pins σ H' s'->Q () s') :
   wpAny 0x2 A (setItem ↥a u r) Q E s:=by
 rcases g with⟨kvs,k,e,ey,l,eH⟩|⟨kvs,k,b,e,ey,eb,l,eH⟩
 . subst ey eH;let#[z,hd,vs,rel,dd]:=jR I.hok e;have hz:vs.length<=sizeLine:=by rw[<- rel.length]; exact z
   have hl:(putK kvs k v).length<=sizeLine:=by have:=dI kvs k v; lia
   refine wpAny_setItem_pairs (hsz:=hz) (gC ry) dd λh' dd' hs=>h _ ?_;have he:∃q,h'.get? a=⇑q:=by let#[q,_,_,hq,_]:=dd'; show#[q,hq]
   exact ir I (by rw[e]; exact True.intro) hs he (jh hl hd (rel.put k rv) dd')
 . subst ey eH;cases (show u=Value.ref b from ry);let#[z,hd,xs,rel,dd]:=Dn I.hok e;have hz:xs.length<=sizeLine:=by rw[<- Paired.length rel]; exact z
   have hl:(putK kvs k v).length<=sizeLine:=by have:=dI kvs k v; lia
   refine wpAny_setItem_heap (hsz:=hz) (tupleKind_room_in1 hu) (ji I.hok eb) dd λh' dd' hs=>h _ ?_;let#[q,es,ep,hq,h2,h3,h4,_,h5]:=dd';refine ir I (by rw[e]; exact True.intro) hs #[q,hq] #[hl,hd,_,(rel.put k eb rv).keeps λc ys ec=>?_,q,es,ep,hq,h2,h3,h4,h5];rw[aM (i5 ec e (λz=>nomatch z))];exact ec
end
abbrev wO (i:Expr):Prop:=∀ov iv,subscripted i false ov iv=operate [ov,iv] (getItem ov iv)
def Eh {prog:Program} {A:Around} {E:K'->L5->Prop} {s:L5} {env:Env} {value slice:Expr} {T id:String} {Q:K'->L5->Prop}
   (hl:typeLookup (.type T) "__getitem__"=pure ⇑(.builtin id)) (hs:wO slice)
   (h:wpAny 0x3 A (eval value env) (λo s₁=>wpAny 0x3 A (eval slice env) (λi s₂=>s₂.TypeIs o T/\wpAny 0x3 A (getItem o i) Q E s₂) E s₁) E s) :
   wpAny 0x3 A (eval (.Subscript value slice pos) env) Q E s:=by
 refine Subscript_ (Il h (λo s₁ h₁=>Il h₁ (λi s₂ h₂=>?_) λ_ _ x=>x) λ_ _ x=>x);let#[hT,h₂]:=h₂;unfold subscriptTail;refine HR ?_;rw[getitemInPython_of_ne hT.not_modules];refine HR (wpAny_specialOf hT hl ?_);have fin:wpAny 0x3 A (subscripted slice false o i) (λr s₃=>wpAny 0x3 A (letTemporaryGo value o r >>= λ_=>pure r) Q E s₃) E s₂:=by rw[hs o i];exact wpAny_operating (Il h₂ (λr s₃ h₃=>HR (wpAny_letTemporaryGo (Ha h₃))) λ_ _ x=>x)
 first
   | exact Ha (HR fin)
   | exact HR (Ha (HR fin))
   | exact HR fin
def Dx {pins:List (L6×Obj)} {σ:St} {s:L5} {a:L6} {o:Hl V} (I:Inv X pins σ H s) (g:cr H a y o):s.TypeIs ↥a "dict":=by
 rcases g with⟨kvs,k,e,_,_⟩|⟨kvs,k,b,e,_,_,_⟩
 . let#[_,_,vs,_,dd]:=ii I.hok e;exact dd.typeIs
 . let#[_,_,xs,_,dd]:=j0 I.hok e;exact dd.typeIs
abbrev CQ (td ty:TE):TE:=λσ H Q=>td σ H λx H1=>ty σ H1 λy H2=>∃a v,x=↥a/\cr H2 a y ⇑v/\Q v H2
abbrev Bi (ty td:TE):TE:=λσ H Q=>ty σ H λy H1=>td σ H1 λx H2=>∃a o,x=↥a/\cr H2 a y o/\Q (.bl o.isSome) H2
abbrev Dg (td ty tv:TE):TS:=λD σ H=>tv σ H λv H1=>td σ H1 λx H2=>ty σ H2 λy H3=>∃a H4,x=↥a/\cU H3 a y v H4/\D.nx σ H4
section
variable {X:Cx} {o i e value:Expr} {pos pos' tpos:Pos} {td ty tv:TE}
def dw (hu:X.A.units+1<cLine) (ho:PE X o td) (hi:PE X i ty) (hs:wO i):PE X (.Subscript o i pos) (CQ td ty):=by intro pins s σ H Q I h;refine Eh PySem.F.slot_dict_getitem.lookup hs (aQ (ho pins s σ H _ I h) λu s1 z106_=>z106_.e λx H1 I1 rx q1=>aQ (hi pins s1 σ H1 _ I1 q1) λiv s2 z107_=>?_);let#[y,H2,I2,ry,a,v,ex,g,q2]:=z107_;subst ex;obtain rfl:u=Value.ref a:=rx;show#[Dx I2 g,Ed hu I2 g ry λw' s3 I3 rw'=>#[v,H2,I3,rw',q2]]
def Ez (hu:X.A.units+1<cLine) (hi:PE X i ty) (ho:PE X o td):PC X .In i o (Bi ty td):=by intro pins s σ H Q I h;refine aQ (hi pins s σ H _ I h) λiv s1 z108_=>z108_.e λy H1 I1 ry q1=>aQ (ho pins s1 σ H1 _ I1 q1) λu s2 z109_=>?_;let#[x,H2,I2,rx,a,ov,ex,g,q2]:=z109_;subst ex;obtain rfl:u=Value.ref a:=rx;exact GB hu I2 g ry λs3 I3=>#[.bl ov.isSome,H2,I3,rfl,q2]
def dJ (hu:X.A.units+1<cLine) (ho:PE X o td) (hi:PE X i ty) (hv:PE X value tv) (hs:swapsWith value ⇑(.Subscript o i pos') pos.line X.env=pure false) :
   PS X (.Assign [.Subscript o i pos'] value pos) (Dg td ty tv):=by
 intro pins s σ H D I h;refine wpAny_Assign_Subscript (aQ (hv pins s σ H _ I h) λr s1 z112_=>z112_.e λv H1 I1 rv q1=>aQ (ho pins s1 σ H1 _ I1 q1) λu s2 z113_=>z113_.e λx H2 I2 rx q2=>aQ (hi pins s2 σ H2 _ I2 q2) λiv s3 z114_=>?_) hs;let#[y,H3,I3,ry,a,H4,ex,g,q3]:=z114_;subst ex;obtain rfl:u=Value.ref a:=rx;exact ER hu I3 g ry rv λs4 I4=>#[σ,H4,I4,q3]
end
def lY {P:Program} (h:Heap) (hb:sysModules<h.objs.size):bT P w H (h.push { cls:=.type "dict",data:=.dict 0xA }) h.objs.size (.dK []) :=
 #[Hw _,beq_eq_false_iff_ne.mpr (Ne.symm (IG hb)),[],.nil,Heap.DictOf.new h]
def ED {P:Program} (h:Heap) (hb:sysModules<h.objs.size):bT P w H (h.push { cls:=.type "dict",data:=.dict 0xA }) h.objs.size (.dT []) :=
 #[Hw _,beq_eq_false_iff_ne.mpr (Ne.symm (IG hb)),[],.nil,_,0xA,(0),Hs _ rfl,#[15],7,List.nodup_nil]
abbrev CL:TE:=λ_ H Q=>∀p,H p=none->Q ↥p (upd H p (.dK []))
abbrev Dk:TE:=λ_ H Q=>∀p,H p=none->Q ↥p (upd H p (.dT []))
section
variable {X:Cx} {pos:Pos}
def dm:PE X (.Dict [] [] pos) CL:=λpins s σ H Q I h =>
 wpAny_Dict_empty #[↥s.heap.objs.size,_,I.laid (a:=s.heap.objs.size) (o:=.dK []) (t':=s.toks) (λ_ _ q=>HW _ q) (HY _) (lY s.heap I.big),rfl,h _ (I.hok.fresh (HY _))]
def Gz:PE X (.Dict [] [] pos) Dk:=λpins s σ H Q I h =>
 wpAny_Dict_empty #[↥s.heap.objs.size,_,I.laid (a:=s.heap.objs.size) (o:=.dT []) (t':=s.toks) (λ_ _ q=>HW _ q) (HY _) (ED s.heap I.big),rfl,h _ (I.hok.fresh (HY _))]
end
abbrev pk:List (TE×TE)->St->Hp->(List (V×V)->Hp->Prop)->Prop
 | [],_,H,Q=>Q [] H
 | (tk,tv)::r,σ,H,Q=>tk σ H λx H1=>tv σ H1 λy H2=>pk r σ H2 λps H3=>Q ((x,y)::ps) H3
noncomputable abbrev VV:List (V×V)->List (K'×K')->Prop:=Paired λp q=>aX p.1 q.1/\aX p.2 q.2
abbrev nR (X:Cx) (pos:Pos) (keys:List (Hl Expr)) (values:List Expr) (trs:List (TE×TE)):Prop :=
 ∀(pins:List (L6×Obj)) (s:L5) (σ:St) (H:Hp) (Q:List (V×V)->Hp->Prop),Inv X pins σ H s->pk trs σ H Q ->
   wpAny 0x2 X.A (evalPairs (pairTrees keys values X.env pos)) (λvs s'=>∃ps H',Inv X pins σ H' s'/\VV ps vs/\Q ps H') X.xe s
def Au :nR X pos [] [] []:=λpins s σ H Q I h=>pairTrees_nil_walk #[[],H,I,.nil,h]
def qo {k v:Expr} {ks:List (Hl Expr)} {vs:List Expr} {tk tv:TE} {trs:List (TE×TE)} (hk:PE X k tk) (hv:PE X v tv) (hr:nR X pos ks vs trs) :
   nR X pos (⇑k::ks) (v::vs) ((tk,tv)::trs):=λpins s σ H Q I h =>
 pairTrees_cons_walk (aQ (hk pins s σ H _ I h) λu s1 ⟨x,H1,I1,rx,q1⟩=>aQ (hv pins s1 σ H1 _ I1 q1) λw2 s2 ⟨y,H2,I2,ry,q2⟩ =>
   aQ (hr pins s2 σ H2 _ I2 q2) λws s3 z123_=>by let#[ps,H3,I3,rel,q3]:=z123_; show#[(x,y)::ps,H3,I3,.cons #[rx,ry] rel,q3])
abbrev eN (kvs more:List (aF×V)):List (aF×V):=more.foldl 0x7 kvs
def KV.merge:∀{more:List (aF×V)} {rs:List (aF×K')} {kvs:List (aF×V)} {vs:List (aF×K')},KV more rs->KV kvs vs->KV (eN kvs more) (merged vs rs):=by
 intro more rs kvs vs r;unfold KV at r
 induction r generalizing kvs vs with
 | nil=>intro q; exact q
 | @cons p q ps qs h t ih =>
   intro r0;have e:KV (putK kvs p.1 p.2) (stored vs q.1 q.2):=by have:=r0.put p.1 h.2;rw[<- h.1]; exact this
   exact ih e
def vQ:∀(more kvs:List (aF×V)),(eN kvs more).length<=kvs.length+more.length
 | [],kvs=>by show kvs.length<=kvs.length+0; lia
 | p::r,kvs=>by have h1:=vQ r (putK kvs p.1 p.2);have h2:=dI kvs p.1 p.2;show(eN (putK kvs p.1 p.2) r).length<=_;rw[II]; lia
def wC {P:Program} {w:World}:∀{kvs:List (aF×V)} {ws:List (K'×K')},VV (kvs.map λkv=>(kV kv.1,kv.2)) ws->∃rs,Carries (br P w) ws rs/\KV kvs rs
 | [],_,r=>by rw[List.map_nil] at r; cases r; show#[[],True.intro,.nil]
 | p::kvs,_,r=>by
   rw[IF] at r;cases r with
   | @cons a b as bs h t =>
     let#[rs,c,q]:=wC (P:=P) (w:=w) t;let#[b1,b2]:=b;show#[(p.1,b2)::rs,#[gC h.1,rfl,c],.cons #[rfl,h.2] q]
abbrev Da (trs:List (TE×TE)):TE:=λσ H Q=>∀p,H p=none->pk trs σ (upd H p (.dK [])) λps H2=>H2 p=⇑(.dK [])/\∃kvs:List (aF×V),ps=kvs.map (λkv=>(kV kv.1,kv.2))/\kvs.length<=15/\Q ↥p (upd H2 p (.dK (eN [] kvs)))
def FT {keys:List (Hl Expr)} {values:List Expr} {trs:List (TE×TE)} (h:nR X pos keys values trs) (hall:keys.all (·.isSome)=true) (hl:keys.length=values.length) (h0:keys≠[])
   (h15:keys.length<=15):PE X (.Dict keys values pos) (Da trs):=by
 intro pins s σ H Q I q;have hn:=I.hok.fresh (HY s.heap.objs.size);have I1:=I.laid (a:=s.heap.objs.size) (o:=.dK []) (h':=s.heap.push { cls:=.type "dict",data:=.dict 0xA }) (t':=s.toks) (λ_ _ q=>HW _ q) (HY _) (lY s.heap I.big);refine wpAny_Dict_walk (knd:=br X.prog X.w) hall hl h0 h15 (aQ (h pins _ σ _ _ I1 (q _ hn)) λws s2 z124_=>?_);let#[ps,H2,I2,rel,e,kvs,ep,lk,q2]:=z124_;subst ep;let#[rs,c,rk]:=wC (P:=X.prog) (w:=X.w) rel;let#[z,hd,vs0,r0,dd]:=jR I2.hok e;cases r0;show#[rs,c,dd,λh' dd' hs=>#[↥s.heap.objs.size,_,?_,rfl,q2]];have hz:(eN [] kvs).length<=sizeLine:=by have h1:=vQ kvs [];rw[JS] at h1;rw[sizeLine_eq]; lia
 have he:∃q,h'.get? s.heap.objs.size=⇑q:=by let#[q,_,_,hq,_]:=dd'; show#[q,hq]
 exact ir I2 (by rw[e]; exact True.intro) hs he (jh hz hd (rk.merge .nil) dd')
structure M2 (X:Cx) (o:Expr) (m:Str) (apos:Pos) (e f:Expr) (cpos:Pos):Prop where
 base:attributeBase o m X.env (eval o X.env)=eval o X.env
 few:((backTo cpos (starEach [e,f] X.env)).all (λx=>!x.1)&&(backToKw cpos (keywordEach [] X.env)).all (λx=>x.1.isSome)
   && decide (([e,f]:List Expr).length+([]:List Keyword).length+(if([]:List Keyword).isEmpty then 0 else 1)<30))=true
 line:(apos.endLine==cpos.line)=true
 trees:backTo cpos (starEach [e,f] X.env)=[(false,eval e X.env),(false,eval f X.env)]
abbrev oU (H:Hp) (a:L6):Prop:=(∃kvs,Rd H a (.dK kvs))\/∃kvs,Rd H a (.dT kvs)
def rh {pins:List (L6×Obj)} {σ:St} {s:L5} {a:L6} (I:Inv X pins σ H s) (d:oU H a) :
   s.TypeIs ↥a "dict"/\(∀b,Value.ref a=↥b->∃ob,s.heap.get? b=⇑ob/\ob.dict=none)/\(a==sysModules)=false:=by
 rcases d with⟨kvs,e⟩|⟨kvs,e⟩
 . let#[_,hd,vs,_,dd]:=ii I.hok e;show#[dd.typeIs,λb q=>?_,hd];cases q;let#[ob,_,_,h1,h2,_]:=dd;show#[ob,h1,h2.2.1]
 . let#[_,hd,xs,_,dd]:=j0 I.hok e;show#[dd.typeIs,λb q=>?_,hd];cases q;let#[ob,_,_,h1,h2,_]:=dd;show#[ob,h1,h2.2.1]
section
variable {X:Cx} {pins:List (L6×Obj)} {σ:St} {H:Hp} {s:L5} {a:L6} {y d:V} {u r:K'} {o:Hl V} {A:Around} {E:K'->L5->Prop}
def FZ {Q:K'->L5->Prop} (hu:A.units+1<cLine) (I:Inv X pins σ H s) (g:cr H a y o) (ry:aX y u) (rd:aX d r) (h:∀w' s',Inv X pins σ H s'->aX (o.getD d) w'->Q w' s') :
   wpAny 0x2 A (call (.builtin "dict.get") [↥a,u,r]) Q E s:=by
 rcases g with⟨kvs,k,e,ey,l⟩|⟨kvs,k,b,e,ey,eb,l⟩
 . subst ey;let#[z,hd,vs,rel,dd]:=ii I.hok e;refine call_meetsIn KC dd.typeIs PySem.F.entry_dict_get (Kp _ _ _) (meets_dict_get_default (br X.prog X.w) a (gC ry) hd r) #[_,dd.mapOf,h _ _ (I.tok _) ?_];rw[l];exact(rel.val k).getD rd
 . subst ey;cases (show u=Value.ref b from ry);let#[z,hd,xs,rel,dd]:=j0 I.hok e;refine call_meetsIn KC dd.typeIs PySem.F.entry_dict_get (Kp _ _ _) (meetsH_dict_get_default (tupleKind (br X.prog X.w)) a b hd r) #[tupleKind_room_in1 hu,k,xs,ji I.hok eb,dd,h _ _ (I.tok _) ?_];rw[l];exact(rel.val k).getD rd
end
abbrev GF (td ty tx:TE):TE:=λσ H Q=>td σ H λx H1=>∃a,x=↥a/\oU H1 a/\ty σ H1 λy H2=>tx σ H2 λz H3=>∃o,cr H3 a y o/\Q (o.getD z) H3
section
variable {X:Cx} {o e f:Expr} {apos cpos:Pos} {td ty tx:TE}
def qO (hu:X.A.units+1<cLine) (ho:PE X o td) (he:PE X e ty) (hf:PE X f tx) (m:M2 X o "get" apos e f cpos):PE X (.Call (.Attribute o "get" apos) [e,f] [] cpos) (GF td ty tx):=by
 intro pins s σ H Q I h;refine wpAny_Call_method m.base m.few m.line K0 KC PySem.F.type_dict_get (aQ (ho pins s σ H _ I h) λu s1 z127_=>?_);let#[x,H1,I1,rx,a,ex,d,q1]:=z127_;subst ex;obtain rfl:u=Value.ref a:=rx;let#[t1,t2,_]:=rh I1 d;show#[t1,t2,?_];rw[m.trees];refine Calls.callWith_builtin rfl (Calls.evalArgs_plain (Calls.spliced_cons (aQ (he pins s1 σ H1 _ I1 q1) λiv s2 ⟨y,H2,I2,ry,q2⟩ =>
   Calls.spliced_cons (aQ (hf pins s2 σ H2 _ I2 q2) λfv s3 ⟨z,H3,I3,rz,ov,g,q3⟩=>Calls.spliced_nil ?_))))
 exact FZ hu I3 g ry rz λw' s4 I4 rw'=>#[_,H3,I4,rw',q3]
end
end L2
namespace PySem
def AO:typeLookup (.type "list") "keys"=pure none:=by rw[typeLookup_type,builtinLookup_eq_fast]; kernel_rfl
def mw:entryFor table "dict.update.loop"=⇑Builtin.«dict.update.loop»:=entryFor_of_tree (by kernel_rfl)
def gY:plainId "dict.update.loop"=true:=by decide +kernel
def Dc {prog:Program} {w:World} {A:Around} {E:K'->L5->Prop} {s:L5} {a:L6} {o:Obj} {xs:Array K'} {k:Nat} {Q:Hl K'->L5->Prop}
   (hx:s.heap.get? a=⇑o) (hc:o.cls=.type "list") (hdat:o.data=.seq xs k) (hd:o.dict=none) (hA:A.handled=none)
   (h:∀h' tk,(∀b ob,s.heap.get? b=⇑ob->h'.get? b=⇑ob)->Q none { s with heap:=h',toks:=tk }) :
   wpAny 0x3 A (getAttr? ↥a "keys") Q E s:=by
 let#[c,dct,dat,sl]:=o;simp only at hc hdat hd;subst hc hdat hd;let#[hp,g,d,tk,os]:=s;have hT:∀tk',(⟨hp,g,d,tk',os⟩:L5).TypeIs ↥a "list":=λ_=>#[_,hx,rfl]
 have f1:=sub_AttributeError;have f3:=Jy.lookup;have f4:=Jy.bind ↥a;have f5:=am_list_getattr_none;unfold getAttr? getAttrBy? getAttrBy
 repeat (any_goals (first|assumption|exact hT _|((with_reducible show wpAny _ _ (call (Value.builtin "list.__getattribute__") _ _) _ _ _); refine call_meets Jy (hT _) am_entry_list_getattribute (F.args_list_getattribute_2 _ _) (meets_getattribute_miss_list a xs k sl "keys" _ AO 0x4 0x4) #[hx,hA,λh' tk' e hx'=>?_])|wp_step))
 let#[t',u',he]:=hx'.there
 try (show wpAny _ _ (getattributeRaised _ _ _ _ _ _ _) _ _ _)
 try unfold getattributeRaised
 repeat (any_goals (first|assumption|wp_step))
 all_goals (first|exact h _ _ hx'.keeps|trace_state)
end PySem
namespace L2
open PySem PySem.Spec PyProof.Rows
section
variable {X:Cx} {pins:List (L6×Obj)} {σ:St} {H:Hp}
def qv {α β:Type} {F:α->β->Prop}:∀{l:List α} {m:List β},Paired F l m->∀{i:Nat} (h1:i<l.length) (h2:i<m.length),F l[i] m[i]
 := by
 intro l m h
 induction h with
 | nil=>intro i h1; simp at h1
 | cons h t ih =>
   intro i h1 h2;cases i with
   | zero=>exact h
   | succ i =>
     have:=ih (i:=i) ↑h1 ↑h2;simpa using this
def FC {A:Around} {R:Result->L5->Prop} {p D it:L6} {ps:List L6} {kvs:List (aF×V)} (hA:A.handled=none) (hpD:p≠D) (hS:aE X.K H p (ps.map V.ref)) (hps:Paired (λa (kv:aF×V)=>aG X.K H a [kV kv.1,kv.2]) ps kvs)
   (hD:H D=none) (hz:kvs.length<=100000) (hit0:it≠D)
   (hR:∀s',Inv X pins σ (upd H D (.dK (kvs.foldl 0x7 []))) s'->R (.ok (.ret .none)) s') :
   ∀(k i:Nat) (t:Tok) (s:L5),kvs.length - i=k->i<=kvs.length->Inv X pins σ (upd H D (.dK ((kvs.take i).foldl 0x7 []))) s->s.heap.IsListIter it p i ->
     (∀H',H' it=none->dq X pins H' it)->H it=none->codeAny 0x2 A (.builtin "dict.update.loop" #[[↥D,↥it,.int (i:Nat) t,.none],[]]) R s:=by
 have sameD:∀o,aB H (upd H D o):=λo=>aB.new hD;have hlen:ps.length=kvs.length:=hps.length;have flen:∀(l:List (aF×V)) (acc:List (aF×V)),(l.foldl 0x7 acc).length<=acc.length+l.length:=by
   intro l
   induction l with
   | nil=>intro acc; simp
   | cons x r ih =>
     intro acc;rw[Jf];have h1:=ih (putK acc x.1 x.2);have h2:=dI acc x.1 x.2;simp only[II]
     lia
 have big:(100000:Nat)<sizeLine:=by decide
 intro k
 induction k with
 | zero =>
   intro i t s hk hi I hit hfp hHit;have e:i=kvs.length:=by lia
   subst e;rw[IP] at I;let#[its,rv,pl,hz']:=I.list ((sameD _).seq hS);let#[f0,f1,f2,f3,f4,f5]:=hfp (upd H D (.dK (kvs.foldl 0x7 []))) (by rw[aM hit0]; exact hHit);refine KG mw ?_;rw[Around.under_plainId gY _];show wpAny _ A.in1 (pyNext ↥it >>= _) _ _ s;have hl:=rv.length;rw[HS] at hl;refine HR (KB hA hit pl.isList (by simp; lia) λh' eb=>?_);have I1:Inv X pins σ (upd H D (.dK (kvs.foldl 0x7 []))) { s with heap:=h' }:=I.turned (t':=s.toks) (λb o hb e=>eb b o hb e) f0 f1 f3 f4 f5;show wpAny _ _ (Builtin.Dict.addKeywords D [] >>= _) _ _ _;exact HR (Ha (Ha (hR _ I1)))
 | succ k ih =>
   intro i t s hk hi I hit hfp hHit;have hlt:i<kvs.length:=by lia
   let#[its,rv,pl,hz']:=I.list ((sameD _).seq hS);have hpi:(ps.map V.ref)[i]?=⇑↥(ps[i]'∅):=by simp [show i<ps.length by lia]
   let#[u,hu,ru]:=rv.get hpi;cases (show u=Value.ref _ from ru);let#[f0,f1,f2,f3,f4,f5]:=hfp (upd H D (.dK ((kvs.take i).foldl 0x7 []))) (by rw[aM hit0]; exact hHit);refine KG mw ?_;rw[Around.under_plainId gY _];show wpAny _ A.in1 (pyNext ↥it >>= _) _ _ s;refine HR (K4 hit pl.isList (x:=.ref ps[i]) ↑hu λh' hit' sb=>?_);have I1:Inv X pins σ (upd H D (.dK ((kvs.take i).foldl 0x7 []))) { s with heap:=h' }:=I.turned (t':=s.toks) (λb o hb e=>(sb.2 b hb)\e) f0 f1 f3 f4 f5;have hpair:aG X.K H ps[i] [kV (kvs[i]).1,(kvs[i]).2]:=qv hps ∅ hlt;obtain⟨its2,rv2,⟨o2,ho2,hc2,n2,hd2⟩,_⟩:=I1.tuple ((sameD _)<*hpair);cases rv2 with
   | cons r1 rr =>
     cases rr with
     | cons r2 rr =>
       cases rr
       rename_i ku vu
       refine HR (IW (HR (wpAny_tryCatch ?_)));show wpAny _ _ (Builtin.Dict.pairItems (.ref ps[i])) _ _ _;unfold Builtin.Dict.pairItems;refine HR (Jl (T:="tuple") #[o2,ho2,hc2] ?_);rw[He #[]];refine HR ?_;show wpAny _ _ (load ps[i] >>= _) _ _ _;refine HR (wpAny_load ho2 ?_);rw[hd2];refine Ha (Ha ?_);show wpAny _ _ (holding [ku,vu] (dictSet D ku vu)) _ _ _;refine IW ?_;let#[z,hd,vs,rel,dd]:=jR I1.hok aH;have hl1:=flen (kvs.take i) [];have hl2:(kvs.take i).length<=kvs.length:=by rw[IE]; lia
       simp only[JS,KH] at hl1;have hzv:vs.length<=sizeLine:=by rw[<- rel.length]; exact z
       refine wpAny_dictSet_pairs (hsz:=hzv) (gC r1) dd λh2 dd2 hs2=>?_;have he:∃q,h2.get? D=⇑q:=by let#[q,_,_,hq,_]:=dd2; show#[q,hq]
       have hl3:(putK ((kvs.take i).foldl 0x7 []) (kvs[i]).1 (kvs[i]).2).length<=sizeLine:=by
         have:=dI ((kvs.take i).foldl 0x7 []) (kvs[i]).1 (kvs[i]).2
         lia
       have I2:=ir (t':=({ s with heap:=h' }:L5).toks+1) I1 (by rw[aH]; exact True.intro) hs2 he (jh hl3 hd (rel.put (kvs[i]).1 r2) dd2);rw[eX] at I2;have e3:(kvs.take (i+1)).foldl 0x7 []=putK ((kvs.take i).foldl 0x7 []) (kvs[i]).1 (kvs[i]).2:=by rw[IM,IX];simp [hlt]
       rw[<- e3] at I2;have hit2:h2.IsListIter it p (i+1):=by let#[oi,hoi,ri]:=hit';show#[oi,(hs2.2 it hit0)\hoi,ri]
       refine Ha #[plainId_quiet gY _,?_];have:=ih (i+1) 0 _ ∅ ∅ I2 hit2 hfp hHit;exact this
end
section
variable {X:Cx}
abbrev D0 (K:L7):List V->Hp->VK->Prop:=λxs H Q=>∃(p:L6) (ps:List L6) (kvs:List (aF×V)),xs=[↥p]/\aE K H p (ps.map V.ref)/\Paired (λa (kv:aF×V)=>aG K H a [kV kv.1,kv.2]) ps kvs/\kvs.length<=100000 /\
 ∀d,H d=none->Q ↥d (upd H d (.dK (kvs.foldl 0x7 [])))
def El (hc:X.calm=true):ao X (.type "dict") (D0 X.K):=by
 intro pins s σ H xs us Q I r h;let#[p,ps,kvs,rfl,hS,hps,hz,q]:=h;let#[u,rfl,ru]:=gP r;cases (show u=Value.ref p from ru);have hA:=I.ok.hd hc;have hD:H s.heap.objs.size=none:=I.hok.fresh (HY _);let#[its,rv,pl,_]:=I.list hS;have hplt:p<s.heap.objs.size:=pl.lt;have I0:Inv X pins σ (upd H s.heap.objs.size (.dK [])) { s with heap:=s.heap.push { cls:=.type "dict",data:=.dict 0xA } } :=
   I.laid (a:=s.heap.objs.size) (o:=.dK []) (t':=s.toks) (λ_ _ q=>HW _ q) (HY _) (lY s.heap I.big)
 refine callType_codes (Q₁:=λobj s₁=>obj=↥s.heap.objs.size/\s₁={ s with heap:=s.heap.push { cls:=.type "dict",data:=.dict 0xA } }) PySem.F.kt_called_dict (Kb _) Kq (kt_code_dict_new _ #[7]) ?_;rintro obj s₁ ⟨rfl,rfl⟩;have hnew:(s.heap.push { cls:=.type "dict",data:=.dict 0xA }).DictOf (br X.prog X.w) s.heap.objs.size []:=Heap.DictOf.new s.heap;show#[hnew.typeIs,Ki _ _,?_];unfold Builtin.«dict.__init__»;refine HR ?_;unfold Builtin.Dict.selfAndRest;refine HR (wpAny_notOrdered_dict hnew.typeIs ?_);show wpAny _ _ (pure (s.heap.objs.size,[Value.ref p])) _ _ _;refine Ha ?_;show wpAny _ _ (Builtin.Dict.updateFrom "dict.__init__" s.heap.objs.size ↥p [] .none) _ _ _;unfold Builtin.Dict.updateFrom;let#[o,n,ho,hcl,hdi,hda]:=pl;have ho1:(s.heap.push { cls:=.type "dict",data:=.dict 0xA }).get? p=⇑o:=HW _ ho;refine HR (Jl (T:="list") #[o,ho1,hcl] ?_);rw[He #[]];refine HR (Dc (s:={ s with heap:=s.heap.push { cls:=.type "dict",data:=.dict 0xA } }) ho1 hcl hda hdi hA λh' tk hk=>?_);have I1:Inv X pins σ (upd H s.heap.objs.size (.dK [])) { s with heap:=h',toks:=tk }:=I0.kept hk;rw[He 0x0];refine HR (KI ?_);have ho2:h'.get? p=⇑o:=hk _ _ ho1;refine HR (J0 (s:={ s with heap:=h',toks:=tk }) (items:=its.toArray) #[o,ho2,hcl,n,hda] ?_);have I2:Inv X pins σ (upd H s.heap.objs.size (.dK [])) { s with heap:=h'.push { cls:=.type "list_iterator",data:=.fields (List.toArray [↥p,.int 0 0]) },toks:=tk }:=I1.kept (t':=tk) λb o e=>HW _ e;have hsz:s.heap.objs.size<h'.objs.size:=by have e:(s.heap.push { cls:=.type "dict",data:=.dict 0xA }).get? s.heap.objs.size=some { cls:=.type "dict",data:=.dict 0xA }:=Hs _ rfl;exact Hm (hk _ _ e)
 have hit0:h'.objs.size≠s.heap.objs.size:=JC hsz;have hHit:H h'.objs.size=none:=I.hok.fresh (Jw hsz);refine Ha #[plainId_quiet gY _,?_];refine FC (A:=X.A.in1) (it:=h'.objs.size) hA (IG hplt) hS hps hD hz hit0 (λs' J=>#[rfl,↥s.heap.objs.size,_,J,rfl,q _ hD]) kvs.length 0 0 _ ∅ (Hw _) ↑I2 #[_,Hs _ rfl,7] (λH' hn=>I1.fpOk (HY _) hn) hHit
def wJ:∀(xs:List V) (us:List K'),xs.length=us.length->(∀(i:Nat) (x:V) (u:K'),xs[i]?=⇑x->us[i]?=⇑u->aX x u)->aU xs us
 | [],[],_,_=>.nil
 | [],_::_,h,_=>by simp at h
 | _::_,[],h,_=>by simp at h
 | x::xs,u::us,h,k=>.cons (k 0 x u rfl rfl) (wJ xs us ↑h λi y v e1 e2=>k (i+1) y v ↑e1 ↑e2)
def sD {P:Program} {w:World} {k:aF} {v:K'} (h:(br P w).is k v=true):aX (kV k) v:=by
 rcases ft (show iB k v=true from h) with⟨i,t,rfl,rfl⟩|⟨x,t,rfl,rfl⟩
 . show#[t,rfl]
 . show#[t,rfl]
def GN {P:Program} {w:World} {kvs:List (aF×V)} {vs:List (aF×K')} {acc:Array K'} (rel:KV kvs vs) (h:ItemsOf (λi v=>∃k x,vs[i]?=⇑(k,x)/\(br P w).is k v=true) acc vs.length) :
   aU (kvs.map λkv=>kV kv.1) acc.toList:=by
 have hl:=rel.length;have el:acc.toList.length=acc.size:=by simp
 have hlen:(kvs.map λkv=>kV kv.1).length=acc.toList.length:=by rw[HS,el,h.1]; exact hl
 refine wJ _ _ hlen λi x u e1 e2=>?_;let#[k,y,e3,e4]:=h.2 i u ↑e2;rw[Hk] at e1;cases e5:kvs[i]? with
 | none=>rw[e5] at e1; cases e1
 | some kv =>
   rw[e5] at e1;have e1:kV kv.1=x:=↑e1
   have e6:kv.1=k:=by
     have h1:i<kvs.length:=(HV.mp e5).1;have h2:i<vs.length:=by lia
     have e7:=qv rel h1 h2;have e8:kvs[i]=kv:=by have:=HV.mp e5; exact this.2
     have e9:vs[i]=(k,y):=by have:=HV.mp e3; exact this.2
     rw[e8,e9] at e7;exact e7.1
   rw[<- e1,e6];exact sD e4
def Fs (hc:X.calm=true):ao X (.type "list") (λxs H Q=>∃d kvs,xs=[↥d]/\H d=⇑(.dK kvs)/\∀l,H l=none->Q ↥l (upd H l (.lst (kvs.map λkv=>kV kv.1)))):=by intro pins s σ H xs us Q I r h;let#[d,kvs,rfl,hd,q]:=h;let#[u,rfl,ru]:=gP r;cases (show u=Value.ref d from ru);let#[z,lo,vs,rel,dd]:=jR I.hok hd;have hlen:=rel.length;obtain⟨ep,dat⟩:∃ep,s.heap.DictAt (br X.prog X.w) d vs ep:=dd.dictAt;refine PySem.W.kdl_call (PySem.W.kdl_dict (knd:=br X.prog X.w) (kvs:=vs) (ep:=ep) lo) (I.ok.hd hc) dat (by rw[<- hlen]; exact z) λh' tk acc' c' hk hS hit=>?_;have hv:aU (kvs.map λkv=>kV kv.1) acc'.toList:=GN rel hit;show#[↥s.heap.objs.size,_,I.laid (a:=s.heap.objs.size) (o:=.lst (kvs.map λkv=>kV kv.1)) hk (HY _) #[by rw[HS]; exact z,acc'.toList,c',hv,by simpa using hS],rfl,q _ (I.hok.fresh (HY _))]
end
end L2
namespace L2
open PySem PySem.Spec PyProof.Rows PySem.W
section
variable {prog:Program} {w:World} {A:Around} {E:K'->L5->Prop} {s:L5} {δ:Type} {R:δ->K'->Prop} {a:L6} {D:List (Str×δ)} {k:Str} {tk:Tok} {d:δ}
def ut (T:KTD.TabOf R s.heap a D):s.TypeIs ↥a "dict":=by let#[_,o,_,_,ho,hc,_]:=T; show#[o,ho,hc.1]
def zp {Q:K'->L5->Prop} (T:KTD.TabOf R s.heap a D) (hd:KTD.datumAt k D=⇑d) (h:∀v,R d v->Q v { s with toks:=s.toks+1 }) :
   wpAny 0x3 A (getItem ↥a (.str k tk)) Q E s:=by
 have ty:=ut T;let#[_,o,es,ep,ho,hc,hdt,hr]:=T;unfold getItem
 try with_reducible refine IW ?_
 refine HR (Kf ty #[] ?_);refine HR (wpAny_callSpecial?_slot (name:=Str.ofString "__getitem__") ty slot_dict_getitem
   (Ix slot_dict_getitem ty entry_dict_getitem ?_ (args_dict_getitem _ _)))
 show wpAny _ _ (dictGet a (.str k tk) >>= _) _ _ s;refine HR ?_;unfold dictGet
 try with_reducible refine IW ?_
 refine HR (wpAny_pyHash_str (HR (KTD.kt_dictFind_strs (s:={ s with toks:=s.toks+1 }) ho hdt (by obtain⟨l⟩:=es; simpa using hr.exact) ?_)));have hq:∃v,findBy (λk v=>v.isStr k) es k=⇑v/\R d v:=by
   have hf:findBy (λk v=>v.isStr k) es k=(es.toList.find? λe=>e.key.isStr k).map (·.val):=by obtain⟨l⟩:=es;simp [findBy]
   rw[hf];exact hr.find_some hd
 let#[v,hv,hR]:=hq;rw[findBy_of_findIdx?] at hv;cases hi:es.findIdx? λe=>e.key.isStr k with
 | none=>rw[hi] at hv; cases hv
 | some i =>
   rw[hi] at hv;have hv:es[i]?.map (·.val)=⇑v:=hv;refine HR (wpAny_dictEntries (s:={ s with toks:=s.toks+1 }) ho hdt (Ha ?_));show wpAny _ _ _ _ _ _;rw[hv];exact Ha #[v,rfl,Ha (h v hR)]
end
abbrev nC (K:L7) (d:L6) (rows:List (Str×List V)):Prop :=
 ∃(o:Obj) (es:Array DictEntry) (ep:Nat),K.lookup d=⇑o/\(d==sysModules)=false/\o.ExactDict/\o.data=.dict es ep/\KTD.Rows (λ(xs:List V) v=>∃a,v=↥a/\∀H:Hp,aG K H a xs) es.toList rows
abbrev FX (K:L7):R2:=λx y H Q=>∃d rows k xs,x=↥d/\y=.str k/\nC K d rows/\KTD.datumAt k rows=⇑xs/\∀a,aG K H a xs->Q ↥a H
def ug {X:Cx}:et X (FX X.K):=by
 intro value slice pins s σ H x y v u Q I rx ry h hs;obtain⟨d,rows,k,xs,rfl,rfl,⟨o,es,ep,ho,lo,hc,hd,hr⟩,hk,q⟩:=h;cases (show v=Value.ref d from rx);let#[t,rfl]:=(show ∃t,u=Value.str k t from ry)
 have T:KTD.TabOf (λ(xs:List V) v=>∃a,v=↥a/\∀H:Hp,aG X.K H a xs) s.heap d rows:=#[lo,o,es,ep,I.kIn d o ho,hc,hd,hr]
 refine tail_any (ut T) slot_dict_getitem.lookup (zp T hk λv hv=>?_) hs;let#[a,rfl,hsq]:=hv;show#[↥a,H,I.tok _,rfl,q a (hsq H)]
end L2
namespace L2
open PySem PySem.Spec PyProof.Rows
abbrev oh:V->K'->Bool
 | .non,.none=>true
 | .bl b,.bool c=>b==c
 | .int i,.int j _=>i==j
 | .str x,.str y _=>x==y
 | _,_=>false
def EQ:∀{x:V} {v:K'},oh x v=true->aX x v:=by
 intro x v h;unfold oh at h;split at h
 . rfl
 . obtain rfl:=beq_iff_eq.mp h; rfl
 . obtain rfl:=beq_iff_eq.mp h; show#[5]
 . obtain rfl:=beq_iff_eq.mp h; show#[5]
 . cases h
abbrev ix:List V->List K'->Bool
 | [],[]=>true
 | x::xs,v::vs=>oh x v&&ix xs vs
 | _,_=>false
def si:∀{xs:List V} {vs:List K'},ix xs vs=true->aU xs vs
 | [],[],_=>.nil
 | x::xs,v::vs,h=>by simp only[ix,IN] at h;exact .cons (EQ h.1) (si h.2)
 | [],_::_,h=>by simp [ix] at h
 | _::_,[],h=>by simp [ix] at h
abbrev jy (K:L7) (xs:List V) (v:K'):Bool:=match v with
 | .ref a=>match K.lookup a with
   | some o=>o.cls==.type "tuple"&&(match o.data with | .seq its _=>decide (its.size<=sizeLine)&&ix xs its.toList|_=>false)
   | none=>false
 | _=>false
def E1 {K:L7} (xs:List V) (v:K') (h:jy K xs v=true):∃a,v=↥a/\∀H:Hp,aG K H a xs:=by
 unfold jy at h;split at h
 . rename_i a
   split at h
   . rename_i o ho
     rw[IN] at h;let#[h1,h2]:=h;split at h2
     . rename_i its n hd
       rw[IN] at h2;show#[a,rfl,λH=>.inr #[o,its,n,ho,beq_iff_eq.mp h1,hd,Ij h2.1,si h2.2]]
     . cases h2
   . cases h
 . cases h
def tV {K:L7} {d:L6} {rows:List (Str×List V)} (h:KTD.tabLook (jy K) (λa=>K.lookup a) d rows=true):nC K d rows:=by
 simp only[KTD.tabLook,IN] at h;let#[h0,hl]:=h;split at hl
 . rename_i o ho
   simp only[IN] at hl;obtain⟨⟨⟨e1,e2⟩,e3⟩,e4⟩:=hl;split at e4
   . rename_i es ep hd
     show#[o,es,ep,ho,by simpa using h0,#[beq_iff_eq.mp e1,by simpa using e2,by simpa using e3],hd,KTD.rows_of_look E1 e4]
   . cases e4
 . cases hl
end L2
namespace L2
open PySem
abbrev tL:Expr->Hl (List V)
 | .List es _=>nW es
 | _=>none
def tj {X:Cx} {e:Expr} {vs:List V} (h:tL e=⇑vs):PE X e (sT λ_ H Q=>Q vs H):=by
 unfold tL at h;split at h
 . exact bE (tY h)
 . cases h
end L2
namespace L2
open PySem PySem.Spec PyProof.Rows
section
variable {prog:Program} {w:World} {A:Around} {E:K'->L5->Prop} {s:L5}
def gx_nextOf_tup {it t:L6} {i:Nat} {items:Array K'} {x:K'} {Q:K'->L5->Prop} (hit:s.heap.IsTupleIter it t i) (ht:s.heap.IsTuple t items) (hx:items[i]?=⇑x)
   (hQ:∀h',h'.IsTupleIter it t (i+1)->Heap.SameBut it s.heap h'->Q x { s with heap:=h' }):wpAny 0x3 A (Builtin.SmallTypes.nextOf ↥it) Q E s:=by
 obtain⟨⟨o,ho,hc,hd⟩,⟨ol,hol,_,nl,hdl⟩⟩:=(#[id hit,ht]:_/\_)
 unfold Builtin.SmallTypes.nextOf; refine HR (wpAny_callSpecial?_slot (name:=Str.ofString "__next__") hit.typeIs JV (Ix JV hit.typeIs KW ?_ (KS _)));show wpAny 0x3 _ (field ↥it 0 >>= _) _ _ s; refine HR (IR ho hd (x:=↥t) rfl ?_);show wpAny 0x3 _ (if(Value.ref t==Value.none)=true then _ else _) _ _ s; rw[HX (by exact Ho)];show wpAny 0x3 _ (field ↥it 1 >>= _) _ _ s; refine HR (IR ho hd (x:=.int i 0) rfl ?_);show wpAny 0x3 _ (seqItems? ↥t >>= _) _ _ s; refine HR (JL hol hdl ?_); simp only[JI,hx];refine HR (Jz ho hd 0x6 (Ha #[x,rfl,Ha (hQ _ #[_,J8 _ ho (Obj.isFreed_of_fields (Obj.data_mapFields hd _)),(Obj.cls_mapFields ..)\hc,by rw[Obj.data_mapFields hd]; simp [rawInt]] (Heap.SameBut.update ..))]))
def gx_nextOf_tup_end {it t:L6} {i:Nat} {items:Array K'} {Q:K'->L5->Prop} (hh:A.handled=none) (hit:s.heap.IsTupleIter it t i) (ht:s.heap.IsTuple t items) (hx:items[i]?=none)
   (hE:∀h' e,Heap.ExtBut it s.heap h'->(∃o,h'.get? e=⇑o/\o.cls=.type "StopIteration")->E ↥e { s with heap:=h' }):wpAny 0x3 A (Builtin.SmallTypes.nextOf ↥it) Q E s:=by
 obtain⟨⟨o,ho,hc,hd⟩,⟨ol,hol,_,nl,hdl⟩⟩:=(#[id hit,ht]:_/\_)
 unfold Builtin.SmallTypes.nextOf; refine HR (wpAny_callSpecial?_slot (name:=Str.ofString "__next__") hit.typeIs JV (Ix JV hit.typeIs KW ?_ (KS _)));show wpAny 0x3 _ (field ↥it 0 >>= _) _ _ s; refine HR (IR ho hd (x:=↥t) rfl ?_);show wpAny 0x3 _ (if(Value.ref t==Value.none)=true then _ else _) _ _ s; rw[HX (by exact Ho)];show wpAny 0x3 _ (field ↥it 1 >>= _) _ _ s; refine HR (IR ho hd (x:=.int i 0) rfl ?_);show wpAny 0x3 _ (seqItems? ↥t >>= _) _ _ s; refine HR (JL hol hdl ?_); simp only[JI,hx];refine HR (KI (HR (Jz ho hd 0x6 ?_))); show wpAny 0x3 _ (newExc (.type "StopIteration") [] >>= _) _ _ _;refine HR ?_; simp only[newExc,newTuple]; refine HR (J1 ?_ (by size_fits));refine HR (m:=firstArgMember _ _) (wpAny_of_eq (a:=Value.none) (by first|rfl|(simp only[firstArgMember]; rfl)) (J1 ?_ (by size_fits)));simp only[raiseNew]; refine HR (wpAny_handled ?_); first|rw[show A.in1.handled=none from hh] | rw[hh]
 refine HR (Ha (wpAny_throw (hE _ _ (((Heap.SameBut.update ..).extBut.push _).push _) #[_,Hs _ rfl,rfl])))
end
variable {w:World}
def vh {prog:Program} {A:Around} (hh:A.handled=none) (it t:L6) (hne:t≠it) (items:Array K') :
   Draws prog w A it [it,t] items.size (λi v=>items[i]?=⇑v) (λi h=>h.IsTupleIter it t i/\h.IsTuple t items) where
 live:=λ_ _ z135_=>by obtain⟨⟨o,ho,_⟩,_⟩:=z135_; show#[o,ho]
 frame:=λ_ _ _ z136_ hk=>by obtain⟨⟨o,ho,r⟩,⟨o2,ho2,r2⟩⟩:=z136_; show#[#[o,hk it 0x6 o ho,r],#[o2,hk t 0x6 o2 ho2,r2]]
 item:=λi s Q E hi z137_ hQ=>by let#[s1,s2]:=z137_; exact gx_nextOf_tup s1 s2 (x:=items[i]) (by simp [hi]) λh' hit' hs'=>hQ _ h' s.toks (by simp [hi]) #[hit',s2.extBut hs'.extBut hne] hs'
 done:=λs Q E z138_ hE=>by let#[s1,s2]:=z138_; exact gx_nextOf_tup_end hh s1 s2 0x6 hE
section
variable {X:Cx} {pins:List (L6×Obj)} {σ:St} {H:Hp} {s:L5} {h':Heap}
def Inv.turnedL {t':Nat} {ch:List L6} (I:Inv X pins σ H s) (k:∀b o,b ∉ ch->s.heap.get? b=⇑o->h'.get? b=⇑o) (hf:∀b∈ch,dq X pins H b):Inv X pins σ H { s with heap:=h',toks:=t' }:=by
 have nit:∀b u,H b=⇑u->b ∉ ch:=λb u e z=>by rw[(hf b z).1] at e; cases e
 refine I.step (g':=s.gens) (d':=s.drawn) (ch:=ch) (λb hb=>#[(hf b hb).2.2.2.1,(hf b hb).2.1,(hf b hb).2.2.2.2.1,(hf b hb).2.2.2.2.2]) (λb o _ _ hc e _=>k b o hc e) (λb o _ _ hc e _=>#[o.slots,k b o hc e]) (λ_ _ _ _ n=>n) (λb o hc e=>#[o,k b o hc e]) (λ_ _ e=>e) (λ_ _ _ e=>e) (λb ps e=>#[0xA,by rw[e]; simp]) (λm hm=>?_) (λb u e=>?_) I.bare
 . let#[o,es,ep,ho,r]:=hm;show#[o,es,ep,k _ _ (λz=>(hf _ z).2.1 rfl) ho,r]
 . have key:∀c,c=b\/H c=⇑(.own b)->c ∉ ch:=λc hc=>by
     rcases hc with z|z
     . subst z; exact nit _ u e
     . exact nit c _ z
   exact(I.hok b u e).stay (λc v hc q=>k c v (key c hc) q) (λ_ q=>q) λ_ _ q=>q
def Inv.turnLaid {t':Nat} {ch:List L6} {a:L6} {o:HO} (I:Inv X pins σ H s) (k:∀b o,b ∉ ch->s.heap.get? b=⇑o->h'.get? b=⇑o) (hf:∀b∈ch,dq X pins H b) (hp:s.heap.objs.size<=a) (new:bT X.prog X.w (upd H a o) h' a o) :
   Inv X pins σ (upd H a o) { s with heap:=h',toks:=t' }:=by
 have nit:∀b u,H b=⇑u->b ∉ ch:=λb u e z=>by rw[(hf b z).1] at e; cases e
 have hn:H a=none:=I.hok.fresh hp;refine I.step (g':=s.gens) (d':=s.drawn) (ch:=ch) (λb hb=>#[(hf b hb).2.2.2.1,(hf b hb).2.1,(hf b hb).2.2.2.2.1,(hf b hb).2.2.2.2.2]) (λb o _ _ hc e _=>k b o hc e) (λb o _ _ hc e _=>#[o.slots,k b o hc e]) (λb u _ q n=>by rw[aM (λz=>by subst z; exact absurd (IB (Hm q) hp) (Ia _))]; exact n) (λb o hc e=>#[o,k b o hc e]) (λb xs q=>by rw[aM (cP q hn)]; exact q) (λb u xs q=>by rw[aM (cP q hn)]; exact q) (λb ps q=>#[0xA,by rw[aM (cP q hn),q]; simp]) (λm hm=>?_) (λb u e=>?_) I.bare
 . let#[o,es,ep,ho,r]:=hm;show#[o,es,ep,k _ _ (λz=>(hf _ z).2.1 rfl) ho,r]
 . by_cases hb:b=a
   . subst hb;rw[aH] at e;cases e;exact new
   . rw[aM hb] at e;have key:∀c,c=b\/H c=⇑(.own b)->c ∉ ch:=λc hc=>by
       rcases hc with z|z
       . subst z; exact nit _ u e
       . exact nit c _ z
     exact(I.hok b u e).stay (λc v hc q=>k c v (key c hc) q) (λc q=>(aM (cP q hn))\q) λc xs q=>(aM (cP q hn))\q
end
def Be (l:L6) (items:Array K') (n:Nat) (dct:Hl L6) (sl:Array (Hl K')) :
   Meets (Builtin.«enumerate.__new__» #[[.type "enumerate",↥l],[]]) (λ_ R s=>s.heap.get? l=some { cls:=.type "tuple",dict:=dct,data:=.seq items n,slots:=sl } /\
     R (.ok (.ret ↥(s.heap.push { cls:=.type "tuple_iterator",data:=.fields (List.toArray [↥l,.int 0 0]) }).objs.size))
       { s with heap:=(s.heap.push { cls:=.type "tuple_iterator",data:=.fields (List.toArray [↥l,.int 0 0]) }).push { cls:=.type "enumerate",data:=.fields (List.toArray [.none,.bool false,↥s.heap.objs.size,rawInt 0,.none,.none]) } }) :=
 .of_wp λprog w A R s h=>by
   let#[h0,g0,d0,t0,o0]:=s;let#[hl,h]:=h;have hsub:=sub_enumerate;have hL:Heap.IsTuple (Shared.heap ⟨h0,g0,d0,t0,o0⟩) l items:=#[_,hl,rfl,n,rfl]
   wp_walk using AutoSeq1.wpAny_loadPart' hl
   refine wpAny_stack_any λst=>Ha ?_;split
   . rename_i c _ _ _ _ _
     cases (c==Value.type "enumerate") <;> (wp_walk using AutoSeq1.wpAny_loadPart' hl,J7 hL; show#[5,h])
   . wp_walk using AutoSeq1.wpAny_loadPart' hl,J7 hL; show#[5,h]
variable {l:L6}
def AA {prog:Program} {A:Around} {E:K'->L5->Prop} {s:L5} {items:Array K'} {Q:K'->L5->Prop} (hL:s.heap.IsTuple l items)
   (h:∀h',IsEnum h' (s.heap.objs.size+1) s.heap.objs.size 0 .none->h'.IsTupleIter s.heap.objs.size l 0->(∀b o,s.heap.get? b=⇑o->h'.get? b=⇑o)->Q ↥(s.heap.objs.size+1) { s with heap:=h' }) :
   wpAny 0x3 A (call (.type "enumerate") [↥l]) Q E s:=by
 obtain⟨⟨c,dct,dt,sl⟩,hl,hc,n,hd⟩:=hL;cases (show c=.type "tuple" from hc); cases (show dt=.seq items n from hd);refine callType_new F.called_enumerate #[] (F.typeCall_enumerate_1 _) (F.newCall_enumerate_1 _) (λobj=>F.args_object_init_2 obj _) F.entry_enumerate_new (Be l items n dct sl) #[hl,?_];have hz:(s.heap.push { cls:=.type "tuple_iterator",data:=.fields (List.toArray [↥l,.int 0 0]) }).objs.size=s.heap.objs.size+1:=Iy ..;have he:IsEnum ((s.heap.push { cls:=.type "tuple_iterator",data:=.fields (List.toArray [↥l,.int 0 0]) }).push { cls:=.type "enumerate",data:=.fields (List.toArray [.none,.bool false,↥s.heap.objs.size,rawInt 0,.none,.none]) }) (s.heap.objs.size+1) s.heap.objs.size 0 .none:=by have e:=Hs (s.heap.push { cls:=.type "tuple_iterator",data:=.fields (List.toArray [↥l,.int 0 0]) }) (o:={ cls:=.type "enumerate",data:=.fields (List.toArray [.none,.bool false,↥s.heap.objs.size,rawInt 0,.none,.none]) }) rfl;rw[hz] at e;exact e
 show _/\_;rw[hz];show#[#[_,he,rfl],h _ he #[_,HW _ (Hs _ rfl),7] λb o x=>HW _ (HW _ x)]
abbrev jp (K:L7) (a:L6):It :=
 #[λi H=>∃xs x,aG K H a xs/\xs[i]?=⇑x,λi H y H'=>∃b,y=↥b/\H b=none/\∀xs x,aG K H a xs->xs[i]?=⇑x->H'=upd H b (.tup [.int i,x]),λi H=>∃xs,aG K H a xs/\xs.length=i]
variable {K:L7} {elts:List Expr} {pos:Pos}
def A8 {P:Program} {k:Nat} (a e it:L6) (hne:e≠it):Turn P w K (.Tuple elts k pos) (jp K a) [e,it] e (λi h=>(∃old,IsEnum h e it i old)/\h.IsTupleIter it a i) where
 mem:=by simp
 obj:=λi h st b hb=>by
   obtain⟨⟨old,he⟩,⟨o,ho,hc,hd⟩⟩:=st;rcases Hh.mp hb with z|z
   . subst z;show#[_,he,λv z=>by cases (show Data.fields _=Data.cell v from z)]
   . have z:b=it:=↑z
     subst z;show#[o,ho,λv z=>by rw[hd] at z; cases z]
 keep:=λi h h' st kk=>by obtain⟨⟨old,he⟩,⟨o,ho,r⟩⟩:=st;show#[#[old,kk e 0x6 _ he],#[o,kk it 0x6 o ho,r]]
 item:=by
   intro X hP hw hK hc i pins s σ H E I hf st hg;subst hP hw hK;obtain⟨⟨old,he⟩,hit⟩:=st;let#[xs,x,hq,hx]:=hg;let#[its,rv,p,hz]:=I.tuple hq;have pt:s.heap.IsTuple a its.toArray:=p;let#[u,hu,ru]:=rv.get hx;have hia:a≠it:=λz=>by
     subst z;let#[o1,h1,c1,_]:=hit;let#[o2,h2,c2,_]:=pt;rw[h1] at h2;cases h2;rw[c1] at c2;injection c2 with c2
     exact absurd c2 #[]
   have hea:e ∉ [it,a]:=λz=>by
     rcases Hh.mp z with z|z
     . exact hne z
     . have z:e=a:=↑z
       subst z;let#[o2,h2,c2,_]:=pt;rw[he] at h2;cases h2;injection (show Value.type "enumerate"=Value.type "tuple" from c2) with c2
       exact absurd c2 #[]
   have hlt:i<its.toArray.size:=by have:=(HV.mp hu).1;simpa using this
   refine Kr (vh (A:=X.A.in1) (I.ok.hd hc) it a hia its.toArray) he #[hit,pt] hlt hne hea λy h' tk hy hout hst hT hsz hk=>?_;show#[5,Kc hout λh2 he2 hs2=>?_];have hs2:Heap.SameBut e h' h2:=hs2;have hyu:y=u:=by
     have hy:its.toArray[i]?=⇑y:=hy;have:its[i]?=⇑y:=↑hy
     rw[hu] at this;exact(Option.some.inj this).symm
   subst hyu;have helt:e<s.heap.objs.size:=Hm he;have hfr:H s.heap.objs.size=none:=I.hok.fresh (HY _);have hnS:s.heap.objs.size≠e:=JC helt;have hT2:h2.get? s.heap.objs.size=some { cls:=.type "tuple",data:=.seq (List.toArray [.int i tk,y]) }:=(hs2.2 _ hnS)\hT;show#[↥s.heap.objs.size,upd H s.heap.objs.size (.tup [.int i,x]),I.turnLaid (t':=tk+1) (ch:=[e,it]) (λb o hb q=>?_) hf (HY _) ?_,rfl,#[s.heap.objs.size,rfl,hfr,λxs' x' hq' hx'=>?_],#[#[y,by exact_mod_cast he2],?_],λb hb=>?_]
   . have h1:b≠e:=λz=>hb (by simp [z]);have h3:b≠it:=λz=>hb (by simp [z]);exact(hs2.2 b h1).trans (hk b o h1 h3 q)
   . show#[by show 2<=sizeLine; decide,[.int i tk,y],.cons #[tk,rfl] (.cons ru .nil),#[_,hT2,13]]
   . have:=I.tuple_inj hq' hq;subst this;rw[hx] at hx';cases hx';rfl
   . obtain⟨⟨o,ho,r⟩,_⟩:=hst;show#[o,(hs2.2 it hne.symm)\ho,r]
   . have hb0:=(hf b hb).1;rw[aM]
     . exact hb0
     . intro z;subst z;let#[o,ho,_]:=hit;rcases Hh.mp hb with z|z
       . exact hnS z
       . have z:s.heap.objs.size=it:=↑z
         exact absurd (Hm ho) (by rw[<- z]; exact Ia _)
 done:=by
   intro X hP hw hK hc i pins s σ H E I hf st hg;subst hP hw hK;obtain⟨⟨old,he⟩,hit⟩:=st;let#[xs,hq,hx]:=hg;let#[its,rv,p,hz]:=I.tuple hq;have pt:s.heap.IsTuple a its.toArray:=p;have hl:=rv.length;have hia:a≠it:=λz=>by
     subst z;let#[o1,h1,c1,_]:=hit;let#[o2,h2,c2,_]:=pt;rw[h1] at h2;cases h2;rw[c1] at c2;injection c2 with c2
     exact absurd c2 #[]
   have hi:i=its.toArray.size:=by simp; lia
   refine wpAny_pyNext_enum_endD (vh (A:=X.A.in1) (I.ok.hd hc) it a hia its.toArray) he (by rw[<- hi]; show#[hit,pt]) λh' eb=>#[rfl,?_]
   exact I.turnedL (t':=s.toks) (ch:=[e,it]) (λb o hb q=>eb b o (λz=>hb (by simp [z])) q) hf
 self:=λ_ _ _ _ _ st h=>by obtain⟨⟨old,he⟩,_⟩:=st;exact Jj he h
variable {tb:TS} {σ:St} {H:Hp}
section
variable {X:Cx}
def qI:bootBuiltins "enumerate"=⇑(.type "enumerate"):=GL
abbrev Fk (K:L7) (ta:TA):TI:=λσ H R=>ta σ H λvs H1=>∃a,vs=[↥a]/\(∃xs,aG K H1 a xs)/\R (jp K a) H1
def sk {a:Expr} {ta:TA} {p tpos:Pos}{k:Nat} (hg:Gl X "enumerate") (hm:X.mg "enumerate"=none) (ha:PA X [a] ta) (hs:starEach [a] X.env=[(false,eval a X.env)]:=by rfl):PI X (.Tuple elts k tpos) (.Call (.Name "enumerate" p) [a] [] pos) (Fk X.K ta):=by
 intro pins s σ H R I h;refine Call_ (fV I hg hm qI (Ie (aQ (ha pos pins s σ H _ I h) λus s1 z139_=>?_) hs rfl));let#[vs,H1,I1,r1,q1]:=z139_;obtain⟨a,e,⟨xs,hq⟩,q⟩:=q1;subst e;cases r1 with
 | cons r rr =>
   cases rr;cases r;let#[its,rv,p,hz]:=I1.tuple hq;refine AA (show s1.heap.IsTuple a its.toArray from p) λh' he hit hk=>?_;refine Jj he ?_;show#[s1.heap.objs.size+1,[s1.heap.objs.size+1,s1.heap.objs.size],4,H1,rfl,I1.kept (t':=s1.toks) hk,A8 a (s1.heap.objs.size+1) s1.heap.objs.size (Kj _),#[#[.none,he],hit],λb hb=>?_,q];rcases Hh.mp hb with z|z
   . subst z;exact I1.fpOk (Ja _) (I1.hok.fresh (Ja _))
   . have z:b=s1.heap.objs.size:=↑z
     subst z;exact I1.fpOk (HY _) (I1.hok.fresh (HY _))
def uj {a:L6} {xs:List V} {g:TG} {D:bn} (Pv:Nat->St->Hp->Prop) (h0:Pv 0 σ H) (hl:∀i σ H,i<=xs.length->Pv i σ H->aG K H a xs)
   (hs:∀i x σ H b,xs[i]?=⇑x->Pv i σ H->H b=none->g ↥b σ (upd H b (.tup [.int i,x])) λσ2 H2=>tb { D with nx:=Pv (i+1),ct:=Pv (i+1),bk:=D.nx } σ2 H2) (hd:∀σ H,Pv xs.length σ H->D.nx σ H) :
   ∃W:Nat->Nat->St->Hp->Prop,(∃m,W 0 m σ H)/\∀i m σ H,W i m σ H->((jp K a).stop i H/\D.nx σ H)\/((jp K a).go i H/\∃N:St->Hp->Prop,(∀σ' H',N σ' H'->∃m',m'<m/\W (i+1) m' σ' H')/\∀x H',(jp K a).yld i H x H'->g x σ H' λσ2 H2=>tb { D with nx:=N,ct:=N,bk:=D.nx } σ2 H2):=by
 show#[λi m σ H=>m=xs.length - i/\i<=xs.length/\Pv i σ H,#[xs.length,by simp,Hw _,h0],?_];rintro i m σ H ⟨rfl,hi,p⟩;have q:=hl i σ H hi p;by_cases hlt:i<xs.length
 . refine .inr #[#[xs,xs[i],q,by simp [hlt]],Pv (i+1),λσ' H' p'=>#[xs.length - (i+1),∅,rfl,hlt,p'],λx H' y=>?_];let#[b,rfl,hb,y]:=y;rw[y xs xs[i] q (by simp [hlt])];exact hs i xs[i] σ H b (by simp [hlt]) p hb
 . have e:i=xs.length:=by lia
   subst e;exact .inl #[#[xs,q,rfl],hd σ H p]
end
section
variable {X:Cx} {pins:List (L6×Obj)} {σ:St} {H:Hp} {s:L5}
def Inv.freeze {d:L6} {kvs:List (aF×V)} (I:Inv X pins σ H s) (e:H d=⇑(.dK kvs)):∃o,s.heap.get? d=⇑o/\Inv X pins σ (upd H d (.frz o (.dK kvs))) s:=by
 obtain⟨z,hd,vs,rel,⟨o,es,ep,ho,r⟩⟩:=I.hok d _ e;show#[o,ho,?_];have nd:∀b u,H b=⇑u->u≠.dK kvs->b≠d:=λb u q n z=>by subst z;rw[e] at q;cases q;exact n rfl
 refine I.step (g':=s.gens) (t':=s.toks) (d':=s.drawn) (h':=s.heap) (ch:=[]) (λ_ z=>nomatch z) (λb o _ _ _ q _=>q) (λb o _ _ _ q _=>#[o.slots,q]) (λb o _ _ n=>?_) (λb o _ q=>#[o,q]) (λb xs q=>?_) (λb o u q=>?_) (λb ps q=>#[0xA,?_]) (λm hm=>hm) (λb u q=>?_) I.bare
 . rw[aM (λz=>by subst z; rw[e] at n; cases n)];exact n
 . rw[aM (nd b _ q (by intro z; cases z))];exact q
 . rw[aM (nd b _ q (by intro z; cases z))];exact q
 . rw[aM (nd b _ q (by intro z; cases z)),q];simp
 . have own:∀c b,H c=⇑(.own b)->(upd H d (.frz o (.dK kvs))) c=⇑(.own b):=λc b q=>(aM (nd c _ q (by intro z; cases z)))\q;have tup:∀c xs,H c=⇑(.tup xs)->(upd H d (.frz o (.dK kvs))) c=⇑(.tup xs):=λc xs q=>(aM (nd c _ q (by intro z; cases z)))\q;by_cases hb:b=d
   . subst hb;rw[aH] at q;cases q;show#[ho,(I.hok _ _ e).stay (λ_ _ _ q=>q) (λc q=>own c _ q) tup]
   . rw[aM hb] at q;exact(I.hok b u q).stay (λ_ _ _ q=>q) (λc q=>own c _ q) tup
end
def Bn:entryFor table "dict_itemiterator.__iter__"=⇑Builtin.«dict_keyiterator.__iter__»:=entryFor_alias (id':="dict_keyiterator.__iter__") (by kernel_rfl) (by first|rfl|decide +kernel|(unfold String.splitOn; simp +decide [String.splitOnAux])) 0x4 (by kernel_rfl)
abbrev i0 (o:Obj) (d:L6) (kvs:List (aF×V)):It :=
 #[λi H=>H d=⇑(.frz o (.dK kvs))/\i<kvs.length,λi H y H'=>∃b,y=↥b/\H b=none/\∀kv,kvs[i]?=⇑kv->H'=upd H b (.tup [kV kv.1,kv.2]),λi H=>H d=⇑(.frz o (.dK kvs))/\i=kvs.length]
def qc {X:Cx} {pins:List (L6×Obj)} {s:L5} {o:Obj} {d:L6} {kvs:List (aF×V)} (I:Inv X pins σ H s) (e:H d=⇑(.frz o (.dK kvs))) {es0:Array DictEntry} {ep:Nat} (hep:o.data=.dict es0 ep) :
   ∃vs,KV kvs vs/\s.heap.DictAt (br X.prog X.w) d vs ep:=by
 obtain⟨h1,z,hd,vs,rel,⟨o',es,ep',ho,hx,hdat,r⟩⟩:=I.hok d _ e;rw[h1] at ho;cases ho;rw[hep] at hdat;cases hdat;show#[vs,rel,o,es0,h1,hx,hep,r]
def AX {P:Program} {k:Nat} (o:Obj) (d it:L6) (kvs:List (aF×V)) (es0:Array DictEntry) (ep:Nat) (hep:o.data=.dict es0 ep) :
   Turn P w K (.Tuple elts k pos) (i0 o d kvs) [it] it (λi h=>∃ok ov,IsItemIter h it d i kvs.length ep ok ov) where
 mem:=by simp
 obj:=λi h st b hb=>by
   let#[ok,ov,he]:=st;have z:b=it:=↑hb
   subst z;show#[_,he,λv z=>by cases (show Data.fields _=Data.cell v from z)]
 keep:=λi h h' st kk=>by let#[ok,ov,he]:=st;show#[ok,ov,kk it 0x6 _ he]
 item:=by
   intro X hP hw hK hc i pins s σ H E I hf st hg;subst hP hw hK;let#[ok,ov,he]:=st;let#[hfz,hi]:=hg;let#[vs,rel,hD]:=qc I hfz hep;have hlen:kvs.length=vs.length:=KV.length rel;have hi':i<vs.length:=by lia
   have rk:kvs[i].1=vs[i].1/\aX kvs[i].2 vs[i].2:=qv rel hi hi';refine wpAny_pyNext_items_item (knd:=br X.prog X.w) (k:=vs[i].1) (v:=vs[i].2) (kvs:=vs) (by rw[<- hlen]; exact he) hD (by simp [hi']) λkey h' hkey hout hT hsz hk=>?_;show#[5,wpAny_letOwnedTupleGo_items hout λh2 he2 hs2=>?_];have hs2:Heap.SameBut it h' h2:=hs2;have hilt:it<s.heap.objs.size:=Hm he;have hnS:s.heap.objs.size≠it:=JC hilt;have hfr:H s.heap.objs.size=none:=I.hok.fresh (HY _);have hT2:h2.get? s.heap.objs.size=some { cls:=.type "tuple",data:=.seq (List.toArray [key,vs[i].2]) }:=(hs2.2 _ hnS)\hT;show#[↥s.heap.objs.size,upd H s.heap.objs.size (.tup [kV kvs[i].1,kvs[i].2]),I.turnLaid (t':=s.toks) (ch:=[it]) (λb o hb q=>?_) hf (HY _) ?_,rfl,#[s.heap.objs.size,rfl,hfr,λkv hkv=>?_],#[4,by rw[hlen]; exact he2],λb hb=>?_]
   . have h1:b≠it:=λz=>hb (by simp [z]);exact(hs2.2 b h1).trans (hk b o h1 q)
   . show#[by show 2<=sizeLine; decide,[key,vs[i].2],.cons (by rw[rk.1]; exact sD hkey) (.cons rk.2 .nil),#[_,hT2,13]]
   . have:kvs[i]=kv:=by simpa [hi] using hkv
     rw[<- this]
   . have z:b=it:=↑hb
     subst z;rw[aM hnS.symm];exact(hf _ hb).1
 done:=by
   intro X hP hw hK hc i pins s σ H E I hf st hg;subst hP hw hK;let#[ok,ov,he]:=st;let#[hfz,hi]:=hg;let#[vs,rel,hD]:=qc I hfz hep;have hlen:kvs.length=vs.length:=KV.length rel;refine wpAny_pyNext_items_end (knd:=br X.prog X.w) (kvs:=vs) (I.ok.hd hc) (by rw[<- hlen]; exact he) hD (by simp; lia) λh' eb=>#[rfl,?_]
   exact I.turnedL (t':=s.toks) (ch:=[it]) (λb o hb q=>eb b o (λz=>hb (by simp [z])) q) hf
 self:=λA i s Q E st h=>by
   let#[ok,ov,he]:=st;have hT:s.TypeIs ↥it "dict_itemiterator":=#[_,he,rfl]
   exact wpAny_pyIter_slot hT KN (Ix KN hT Bn (show wpAny _ _ (ret ↥it) _ _ s from Ha #[5,"dict_itemiterator",_,hT,F.slot_dict_itemiterator_next.lookup,h]) (F.args_dict_itemiterator_iter_1 _))
section
variable {X:Cx}
abbrev ze (td:TE):TI:=λσ H R=>td σ H λx H1=>∃d kvs,x=↥d/\((H1 d=⇑(.dK kvs)/\∀o,R (i0 o d kvs) (upd H1 d (.frz o (.dK kvs))))\/∃o,H1 d=⇑(.frz o (.dK kvs))/\R (i0 o d kvs) H1)
def sr {l:Expr} {td:TE} {apos cpos tpos:Pos} {k:Nat} (hl:PE X l td) (hbase:attributeBase l "items" X.env (eval l X.env)=eval l X.env:=by rfl) (hline:(apos.endLine==cpos.line)=true:=by rfl) :
   PI X (.Tuple elts k tpos) (.Call (.Attribute l "items" apos) [] [] cpos) (ze td):=by
 intro pins s σ H R I h;refine Ko hbase hline (aQ (hl pins s σ H _ I h) λv s1 z140_=>?_);let#[x,H1,I1,r1,q1]:=z140_;let#[d,kvs,rfl,q1]:=q1;cases r1;have key:∃o H2,Inv X pins σ H2 s1/\H2 d=⇑(.frz o (.dK kvs))/\R (i0 o d kvs) H2:=by
   rcases q1 with⟨e,q⟩|⟨o,e,q⟩
   . let#[o,ho,I2]:=I1.freeze e;show#[o,_,I2,aH,q o]
   . show#[o,H1,I1,e,q]
 let#[o,H2,I2,e2,q]:=key;let#[ho,z,hd,vs,rel,dd]:=I2.hok d _ e2;let#[o',es,ep,ho',hx,hdat,r]:=id dd;rw[ho] at ho';cases ho';show#["dict","dict.items",K0,Ks,PySem.F.type_dict_items,dd.typeIs,λb q=>?_,Calls.callWith_builtin rfl (PySem.evalArgs_none ?_)]
 . cases q;show#[o,ho,hx.2.1]
 refine call_meetsIn Ks dd.typeIs PySem.F.entry_dict_items (PySem.F.args_dict_items_1 _) (meets_dict_items (br X.prog X.w) d hd) #[#[vs,dd],?_];have I3:Inv X pins σ H2 { s1 with heap:=s1.heap.push { cls:=.type "dict_items",data:=.fields (List.toArray [↥d]) } }:=I2.kept (t':=s1.toks) λb o e=>HW _ e;let#[vs3,rel3,hD3]:=qc I3 e2 hdat;refine wpAny_pyIter_items (knd:=br X.prog X.w) (kvs:=vs3) (ep:=ep) #[_,Hs _ rfl,7] hD3 ?_;have hlen:kvs.length=vs3.length:=KV.length rel3;rw[<- hlen];generalize hh3:s1.heap.push { cls:=.type "dict_items",data:=.fields (List.toArray [↥d]) }=h3 at I3 ⊢;show#[h3.objs.size,[h3.objs.size],4,H2,rfl,I3.kept (t':=s1.toks) λb o e=>HW _ e,AX o d h3.objs.size kvs es ep hdat,#[4,Hs _ rfl],λb hb=>?_,q];have z:b=h3.objs.size:=↑hb
 subst z;exact I3.fpOk (HY _) (I3.hok.fresh (HY _))
def vJ {o:Obj} {d:L6} {kvs:List (aF×V)} {g:TG} {D:bn} (Pv:Nat->St->Hp->Prop) (h0:Pv 0 σ H) (hl:∀i σ H,i<=kvs.length->Pv i σ H->H d=⇑(.frz o (.dK kvs)))
   (hs:∀i kv σ H b,kvs[i]?=⇑kv->Pv i σ H->H b=none->g ↥b σ (upd H b (.tup [kV kv.1,kv.2])) λσ2 H2=>tb { D with nx:=Pv (i+1),ct:=Pv (i+1),bk:=D.nx } σ2 H2) (hd:∀σ H,Pv kvs.length σ H->D.nx σ H) :
   ∃W:Nat->Nat->St->Hp->Prop,(∃m,W 0 m σ H)/\∀i m σ H,W i m σ H->((i0 o d kvs).stop i H/\D.nx σ H)\/((i0 o d kvs).go i H/\∃N:St->Hp->Prop,(∀σ' H',N σ' H'->∃m',m'<m/\W (i+1) m' σ' H')/\∀x H',(i0 o d kvs).yld i H x H'->g x σ H' λσ2 H2=>tb { D with nx:=N,ct:=N,bk:=D.nx } σ2 H2):=by
 show#[λi m σ H=>m=kvs.length - i/\i<=kvs.length/\Pv i σ H,#[kvs.length,by simp,Hw _,h0],?_];rintro i m σ H ⟨rfl,hi,p⟩;have q:=hl i σ H hi p;by_cases hlt:i<kvs.length
 . refine .inr #[#[q,hlt],Pv (i+1),λσ' H' p'=>#[kvs.length - (i+1),∅,rfl,hlt,p'],λx H' y=>?_];let#[b,rfl,hb,y]:=y;rw[y kvs[i] (by simp [hlt])];exact hs i kvs[i] σ H b (by simp [hlt]) p hb
 . have e:i=kvs.length:=by lia
   subst e;exact .inl #[#[q,rfl],hd σ H p]
end
section
variable {X:Cx} {o e f:Expr} {apos cpos:Pos} {td ty tx:TE}
abbrev FU (td ty tx:TE):TE:=λσ H Q=>td σ H λx H1=>∃a,x=↥a/\oU H1 a/\ty σ H1 λy H2=>tx σ H2 λz H3=>∃kvs k,H3 a=⇑(.dK kvs)/\y=kV k/\kvs.length<sizeLine /\
 (∀v,aq kvs k=⇑v->Q v H3)/\(aq kvs k=none->Q z (upd H3 a (.dK (putK kvs k z))))
def E6 (ho:PE X o td) (he:PE X e ty) (hf:PE X f tx) (m:M2 X o "setdefault" apos e f cpos):PE X (.Call (.Attribute o "setdefault" apos) [e,f] [] cpos) (FU td ty tx):=by
 intro pins s σ H Q I h;refine wpAny_Call_method m.base m.few m.line K0 KU PySem.F.type_dict_setdefault (aQ (ho pins s σ H _ I h) λu s1 z141_=>?_);let#[x,H1,I1,rx,a,ex,d,q1]:=z141_;subst ex;obtain rfl:u=Value.ref a:=rx;let#[t1,t2,_]:=rh I1 d;show#[t1,t2,?_];rw[m.trees];refine Calls.callWith_builtin rfl (Calls.evalArgs_plain (Calls.spliced_cons (aQ (he pins s1 σ H1 _ I1 q1) λiv s2 z142_=>z142_.e λy H2 I2 ry q2=>Calls.spliced_cons (aQ (hf pins s2 σ H2 _ I2 q2) λfv s3 ⟨z,H3,I3,rz,kvs,k,ea,ey,hl,q3,q4⟩=>Calls.spliced_nil ?_))));subst ey;let#[hz,hd,vs,rel,dd]:=jR I3.hok ea;refine call_meetsIn KU dd.typeIs PySem.F.entry_dict_setdefault (PySem.F.args_dict_setdefault_3 _ _ _) (kt_meets_setdefault (br X.prog X.w) a (gC ry) hd fv) #[vs,dd,by rw[<- rel.length]; exact hz,λv hv=>?_,λhn h' dd' hs=>?_]
 . have rv:=rel.val k;rw[hv] at rv;cases l:aq kvs k with
   | none=>rw[l] at rv; exact absurd rv (by intro z; cases z)
   | some v' =>
     rw[l] at rv;show#[v',H3,I3.tok _,rv,q3 v' l]
 . have rv:=rel.val k;rw[hn] at rv;have l:aq kvs k=none:=by
     cases l:aq kvs k with
     | none=>rfl
     | some v'=>rw[l] at rv; exact absurd rv (by intro z; cases z)
   have hex:∃q,h'.get? a=⇑q:=by let#[q,_,_,hq,_]:=dd'; show#[q,hq]
   have hlp:(putK kvs k z).length<=sizeLine:=by have:=dI kvs k z; lia
   show#[z,_,ir I3 (by rw[ea]; exact True.intro) hs hex (jh hlp hd (rel.put k rz) dd'),rz,q4 l]
end
abbrev kS (hi:Int) (n:Nat):It:=#[λi _=>i<n,λi H x H'=>H'=H/\x=.int (hi - i),λi _=>n<=i]
def GH {P:Program} {tg:Expr} (it:L6) (hi:Int) (n:Nat):Turn P w K tg (kS hi n) [it] it (λi h=>IsRangeIter h it (hi+(i:Nat) * (-1)) ((n:Int) - (i:Nat)) (-1)) where
 mem:=by simp
 obj:=λi h st b hb=>by
   have e:b=it:=↑hb
   subst e;show#[_,st,λv z=>by cases (show Data.fields _=Data.cell v from z)]
 keep:=λi h h' st k=>k it 0x6 _ st
 item:=by
   intro X hP hw hK hc i pins s σ H E I hf st hg;subst hP hw hK;refine(Walks.range (prog:=X.prog) (w:=X.w) (I.ok.hd hc) it hi (-1) n).item i s _ _ hg st λv h' tk hv st' kk=>?_;let#[t,rfl]:=hv;have I1:Inv X pins σ H { s with heap:=h',toks:=tk }:=I.turnedL (ch:=[it]) (λb o hb e=>kk b o hb e) hf;have e:hi+(i:Int) * (-1)=hi - (i:Int):=by lia
   show#[5,mx (s:={ s with heap:=h',toks:=tk }) (n:="range_iterator") st' rfl rfl #[] #[.int (hi - i),H,I1,#[t,by rw[e]],#[7],st',λb hb=>(hf b hb).1]]
 done:=by intro X hP hw hK hc i pins s σ H E I hf st hg;subst hP hw hK;exact wpAny_pyNext_range_end (I.ok.hd hc) st (by have:n<=i:=hg; lia) λh' eb=>#[rfl,I.turnedL (t':=s.toks) (ch:=[it]) (λb o hb e=>eb b o (λz=>hb (by simp [z])) e) hf]
 self:=λ_ _ _ _ _ st h=>wpAny_pyIter_rangeiter st h
def uS (a b:Int):Builtin.Range.rangeSize a b (-1)=if b<a then a - b else 0:=by
 unfold Builtin.Range.rangeSize;rw[HX #[]];have:(-(-1):Int)=1:=by decide
 rw[this];rw[Int.ediv_one];by_cases h:b<a
 . rw[He h,He h]; lia
 . rw[HX h,HX h]
def E3 {a b:Int} (ha:-(2 ^ 60)<=a) (ha':a<2 ^ 60) (hb:-(2 ^ 60)<=b) (hb':b<2 ^ 60):Builtin.Range.small a b (-1)=true:=by
 unfold Builtin.Range.small;rw[uS];simp only[Builtin.Range.rangeFitsLong,IN,Bool.or_eq_true,JX,Kg,show ¬ ((-1:Int) > 0) by decide,if_false];by_cases h:b<a
 . simp only[He h]; lia
 . simp only[HX h]; lia
variable {n:Nat}
section
variable {X:Cx} {tg:Expr}
abbrev Aj (ta:TA):TI:=λσ H R=>ta σ H λvs H1=>∃i j:Int,vs=[.int i,.int j,.int (-1)]/\(-(2 ^ 60)<=i/\i<2 ^ 60/\-(2 ^ 60)<=j/\j<2 ^ 60)/\R (kS i (i - j).toNat) H1
def Gs {a b c:Expr} {ta:TA} {p:Pos}(hg:Gl X "range") (hm:X.mg "range"=none) (ha:PA X [a,b,c] ta) (hs:starEach [a,b,c] X.env=(false,eval a X.env)::starEach [b,c] X.env:=by rfl) (hs2:(backTo pos (starEach [b,c] X.env)).any (·.1)=false:=by rfl) :
   PI X tg (.Call (.Name "range" p) [a,b,c] [] pos) (Aj ta):=by
 intro pins s σ H R I h;refine Call_ (fV I hg hm boot_range (Ie (aQ (ha pos pins s σ H _ I h) λus s1 z144_=>?_) hs hs2));let#[vs,H1,I1,r1,q1]:=z144_;obtain⟨i,j,e,⟨q1,q2,q3,q4⟩,q⟩:=q1;subst e;cases r1 with
 | cons r rr =>
   cases rr with
   | cons r' rr =>
     cases rr with
     | cons r'' rr =>
       cases rr;let#[t,rfl]:=r;let#[t',rfl]:=r';let#[t'',rfl]:=r'';refine call_range_3 #[] ?_ (.inl (PyProof.noPylong_small ∅));refine wpAny_pyIter_range (IsRange.new ..) (E3 q1 q2 q3 q4) ?_;have I2:Inv X pins σ H1 { s1 with heap:=s1.heap.push { cls:=.type "range",data:=.fields (List.toArray [.int i t,.int j t',.int (-1) t'']) },toks:=s1.toks }:=I1.kept λb o e=>HW _ e;show#[_,[(s1.heap.push { cls:=.type "range",data:=.fields (List.toArray [.int i t,.int j t',.int (-1) t'']) }).objs.size],4,H1,rfl,I2.kept (t':=s1.toks) λb o e=>HW _ e,GH _ i (i - j).toNat,?_,λb hb=>?_,q]
       . have e1:i+((0:Nat):Int) * (-1)=i:=by lia
         have e2:(((i - j).toNat:Nat):Int) - ((0:Nat):Int)=Builtin.Range.rangeSize i j (-1):=by rw[uS]; split <;> lia
         show IsRangeIter _ _ (i+((0:Nat):Int) * (-1)) ((((i - j).toNat:Nat):Int) - ((0:Nat):Int)) (-1);rw[e1,e2];exact Hs _ rfl
       . have e:b=(s1.heap.push { cls:=.type "range",data:=.fields (List.toArray [.int i t,.int j t',.int (-1) t'']) }).objs.size:=↑hb
         subst e;exact I2.fpOk (HY _) (I2.hok.fresh (HY _))
def DL {hi:Int} {g:TG} {D:bn} (Pv:Nat->St->Hp->Prop) (h0:Pv 0 σ H) (hs:∀i σ H,i<n->Pv i σ H->g (.int (hi - i)) σ H λσ2 H2=>tb { D with nx:=Pv (i+1),ct:=Pv (i+1),bk:=D.nx } σ2 H2) (hd:∀σ H,Pv n σ H->D.nx σ H) :
   ∃W:Nat->Nat->St->Hp->Prop,(∃m,W 0 m σ H)/\∀i m σ H,W i m σ H->((kS hi n).stop i H/\D.nx σ H)\/((kS hi n).go i H/\∃N:St->Hp->Prop,(∀σ' H',N σ' H'->∃m',m'<m/\W (i+1) m' σ' H')/\∀x H',(kS hi n).yld i H x H'->g x σ H' λσ2 H2=>tb { D with nx:=N,ct:=N,bk:=D.nx } σ2 H2):=by
 show#[λi m σ H=>m=n - i/\i<=n/\Pv i σ H,#[n,by simp,Hw _,h0],?_];rintro i m σ H ⟨rfl,hi',p⟩;by_cases hlt:i<n
 . refine .inr #[hlt,Pv (i+1),λσ' H' p'=>#[n - (i+1),∅,rfl,hlt,p'],λx H' y=>?_];let#[e,y]:=y;subst e y;exact hs i σ _ hlt p
 . have e:i=n:=by lia
   subst e;exact .inl #[HY _,hd σ H p]
end
def Ae {X:Cx} {st:Stmt} {rest:List Stmt} {t u:TS} (h1:PS X st t) (h2:aO X rest u):aO X (st::rest) (λD σ H=>∃M:St->Hp->Prop,t { D with nx:=M } σ H/\∀σ' H',M σ' H'->u D σ' H'):=by
 intro pins s σ H D I h;let#[M,h,hm]:=h;refine Jb (aQ (h1 pins s σ H { D with nx:=M } I h) λf s1 q=>?_);cases f with
 | next =>
   let#[σ',H',I',q]:=q;exact h2 pins s1 σ' H' D I' (hm _ _ q)
 | ret v=>exact q
 | brk=>exact q
 | cont=>exact q
def Bp {X:Cx}:bP X (compareOp .Is) (λx y H Q=>∃a b,x=.bl a/\y=.bl b/\Q (.bl (decide (a=b))) H):=by intro pins s σ H x y v u Q I rx ry h;let#[a,b,rfl,rfl,q]:=h;cases rx;cases ry;exact wpAny_is_plain rfl (bZ I q (by cases a <;> cases b <;> rfl))
abbrev c8 (n:Nat) (d:PyData):Prop:=PyData.canLay0 d=true/\PyData.depth d<=n
def c8.int (i:Int):c8 n (.int i):=#[by unfold PyData.canLay0; rfl,by unfold PyData.depth; exact Hw _]
def c8.bool (b:Bool):c8 n (.bool b):=#[by unfold PyData.canLay0; rfl,by unfold PyData.depth; exact Hw _]
def c8.str {x:Str} (h:PyData.strOk x=true):c8 n (.str x):=#[by unfold PyData.canLay0; exact h,by unfold PyData.depth; exact Hw _]
def pc {n:Nat}:∀{ds:List PyData},(∀d∈ds,c8 n d)->PyData.canLayAll0 ds=true/\PyData.depthAll ds<=n
 | [],_=>#[by unfold PyData.canLayAll0; rfl,by unfold PyData.depthAll; exact Hw _]
 | d::ds,h=>by
   have h1:=h d Hj;have h2:=pc (λx hx=>h x (Hv _ hx));constructor
   . unfold PyData.canLayAll0; rw[h1.1,h2.1]; rfl
   . unfold PyData.depthAll; exact Nat.max_le.mpr #[h1.2,h2.2]
def c8.list {ds:List PyData} (h:∀d∈ds,c8 n d):c8 (n+1) (.list ds):=by have h2:=pc h;show#[by unfold PyData.canLay0; exact h2.1,by unfold PyData.depth; have:=h2.2; lia]
def c8.tuple {ds:List PyData} (h:∀d∈ds,c8 n d):c8 (n+1) (.tuple ds):=by have h2:=pc h;show#[by unfold PyData.canLay0; exact h2.1,by unfold PyData.depth; have:=h2.2; lia]
def c8.shaped {n:Nat} {d:PyData} (h:c8 n d) (hn:n<=64):SeqAt.shaped d=true:=by unfold SeqAt.shaped;rw[h.1,Hf (Hu h.2 hn)];rfl
def c8.refl {d:PyData} (h:c8 n d):PyData.eqv d d=true:=SeqAt.eqv_refl d h.1
def EW {x y:V} {Q:VK} {d:PyData} (hn:n<=64) (l:c8 n d) (hx:bN K H d x) (hy:bN K H d y) (q:Q (.bl true) H):p9 K x y H Q :=
 #[d,d,hx,hy,l.shaped hn,l.shaped hn,by rw[l.refl]; exact q]
def wZ {x y:V} {Q:VK} {d:PyData} (hn:n<=64) (l:c8 n d) (hx:bN K H d x) (hy:bN K H d y) (q:Q (.bl false) H):rY K x y H Q :=
 #[d,d,hx,hy,l.shaped hn,l.shaped hn,by rw[l.refl]; exact q]
mutual
theorem bN.mono {K:L7} {H H':Hp} (e:aB H H'):∀(d:PyData) (v:V),bN K H d v->bN K H' d v
 | .none,v,h=>by unfold bN at h ⊢; exact h
 | .bool b,v,h=>by unfold bN at h ⊢; exact h
 | .int i,v,h=>by unfold bN at h ⊢; exact h
 | .str x,v,h=>by unfold bN at h ⊢; exact h
 | .list ds,v,h=>by unfold bN at h ⊢;let#[a,xs,rfl,hq,hd]:=h;show#[a,xs,rfl,e.seq hq,cN.mono e ds xs hd]
 | .tuple ds,v,h=>by unfold bN at h ⊢;let#[a,xs,rfl,hq,hd]:=h;show#[a,xs,rfl,e<*hq,cN.mono e ds xs hd]
 | .dict _,v,h=>by unfold bN at h; exact h.elim
theorem cN.mono {K:L7} {H H':Hp} (e:aB H H'):∀(ds:List PyData) (xs:List V),cN K H ds xs->cN K H' ds xs
 | [],xs,h=>by unfold cN at h ⊢; exact h
 | d::ds,xs,h=>by unfold cN at h ⊢;let#[x,r,rfl,hd,hds]:=h;show#[x,r,rfl,bN.mono e d x hd,cN.mono e ds r hds]
end
abbrev ers (l:L6) (H:Hp):Hp:=λb=>if b=l then none else H b
def ak {b:L6}(h:b≠l):ers l H b=H b:=by unfold ers; rw[HX h]
def bK :aB (ers l H) H:=λb o h=>by
 unfold ers at h;split at h
 . cases h
 . exact h
def fW {o:HO}:ers l (upd H l o)=ers l H:=by funext b;unfold ers upd;split <;> rfl
def aB.ers {l:L6} {H H':Hp} (e:aB H H'):aB (ers l H) (ers l H'):=λb o h=>by
 unfold L2.ers at h ⊢;split at h
 . cases h
 . rename_i hb
   rw[HX hb];exact e b o h
section
variable {g:TG} {tif:TT} {te:TE} {js:List (Hl Nat)} {σ:St} {H:Hp} {Q:VK}
def GE {lo:Int} {p:L6} (f:Nat->V) (hn:n<=1000000) (hp:H p=none)
   (hs:∀i H2 (R:VK),i<n->aB H H2->R (f i) H2->g (.int (lo+i)) (bu js σ) H2 λσ2 H3=>tif σ2 H3 λc H4=>if c=true then te σ2 H4 R else False)
   (hd:∀H2,aB H H2->H2 p=⇑(.lst ((List.range n).map f))->Q ↥p H2) (mono:∀x H2 (M M':St->Hp->Prop),(∀σ' H',M σ' H'->M' σ' H')->g x (bu js σ) H2 M->g x (bu js σ) H2 M':=by intro _ _ _ _ h z; exact h _ _ z) (mon2:∀σ2 H2 (M M':Bool->Hp->Prop),(∀c H',M c H'->M' c H')->tif σ2 H2 M->tif σ2 H2 M':=by intro _ _ _ _ h z; exact h _ _ z) :
   gW (gO lo n) g tif te js σ Q p H:=by
 refine nP hn (λi acc H2=>aB H H2/\H2 p=⇑(.lst acc)/\acc=(List.range i).map f) #[aB.new hp,aH,rfl] ?_ ?_ ?_
 . rintro i acc H2 hi ⟨s2,e2,rfl⟩;show#[e2,by rw[HS,JY]; exact HY _]
 . rintro i acc H2 hi ⟨s2,e2,rfl⟩;refine mono _ _ _ _ (λσ' H' z=>?_) (hs i H2 (λy H5=>H5 p=⇑(.lst ((List.range i).map f))/\(aB H (upd H5 p (.lst ((List.range i).map f++[y])))/\upd H5 p (.lst ((List.range i).map f++[y])) p=⇑(.lst ((List.range i).map f++[y]))/\(List.range i).map f++[y]=(List.range (i+1)).map f)) hi s2 #[e2,s2.upd hp,aH,?_])
   . refine mon2 _ _ _ _ (λc H'' zz=>?_) z;cases c with
     | true=>exact zz
     | false=>exact zz.elim
   . rw[Ju,Hq];rfl
 . rintro acc H2 ⟨s2,e2,rfl⟩;exact hd H2 s2 e2
end
end L2
namespace Gx
open PySem L2
def cH:0<=sizeLine:=by decide
def eh:1<=sizeLine:=by decide
def bH:2<=sizeLine:=by decide
def dY:3<=sizeLine:=by decide
def gF:4<=sizeLine:=by decide
def gG {n:Nat} (h:n<1000000):n<=sizeLine:=by
 have:(1000000:Nat)<sizeLine:=by decide
 lia
def bR {x:V} {r:List V}:am (x::r) 0=⇑x:=by unfold am cX;rw[He #[],He 0x6];rfl
def vq {Q:VK} {H:Hp} {x y:V} (h:x=y) (q:Q y H):Q x H:=by subst h; exact q
def ge (z n:Int) (h:0<n):0<=z%n/\z%n<n:=#[JT _ ∅,JN _ h]
def Gn {α:Type} {es:List α} {f:α->V} {i:Nat} {x:V} (h:(es.map f)[i]?=⇑x):∃e,es[i]?=⇑e/\e∈es/\x=f e:=by
 rw[Hk] at h;cases he:es[i]? with
 | none=>rw[he] at h; cases h
 | some e=>rw[he] at h; cases h; show#[e,rfl,IA he,rfl]
end Gx
namespace L2
open PySem PySem.Spec PyProof.Rows
abbrev AG (K:L7) (ta:TE):TT:=λσ H Q=>ta σ H λx H'=>∃k,pQ K x H' k/\Q k H'
def Cq {X:Cx} {K:L7} {a:Expr} {ta:TE} (hK:X.K=K) (ha:PE X a ta) (he:∀whole,isTrue a X.env whole=(do let v <- whole; standAt a.pos; holding [v] (truthy v))):PT X a (AG K ta):=by subst hK;exact Em ha he
end L2
namespace Gx
open PySem L2
abbrev tx (l:List Nat):Str:=#[l.toArray]
def jr (l:List Nat):(tx l).cps.toList=l:=by unfold tx; simp
def dW (l:List Nat):(tx l).length=l.length:=by unfold tx Str.length; simp
def mK (z:Str):z=tx z.cps.toList:=by cases z; simp [tx]
def lB (a b:List Nat):tx a++tx b=tx (a++b):=by show(#[_++_]:Str)=_;unfold tx;simp
def ll {a b:List Nat} (h:tx a=tx b):a=b:=by rw[<- jr a,h,jr]
def Cv (y:Str) (ys:List Str):PySem.Txt.join "" (y::ys)=y++PySem.Txt.join "" ys:=by
 show PySem.Builtin.Str.glued ("":Str) (y::ys)=y++PySem.Builtin.Str.glued ("":Str) ys;rw[PySem.StrLaws.glued_eq_join,PySem.StrLaws.glued_eq_join];cases ys with
 | nil =>
   show y=y++Str.empty;cases y;show _=(#[_++(List.toArray [])]:Str);simp
 | cons z zs =>
   show y++""++Str.join "" (z::zs)=_;have:y++("":Str)=y:=by cases y;show(#[_++(List.toArray [])]:Str)=_;simp
   rw[this]
def qw:∀(ls:List (List Nat)),PySem.Txt.join "" (ls.map tx)=tx ls.flatten
 | []=>by show PySem.Builtin.Str.glued ("":Str) []=_;rw[PySem.StrLaws.glued_eq_join];rfl
 | l::ls=>by rw[IF,Cv,qw ls,lB,J2]
end Gx
namespace L2
open PySem PySem.Spec PyProof.Rows
abbrev kQ (K:L7) (a:L6):It :=
 #[λi H=>∃xs x,aE K H a xs/\xs[i]?=⇑x,λi H y H'=>∃b,y=↥b/\H b=none/\∀xs x,aE K H a xs->xs[i]?=⇑x->H'=upd H b (.tup [.int i,x]),λi H=>∃xs,aE K H a xs/\xs.length=i]
def CZ {P:Program} {w:World} {K:L7} {elts:List Expr} {k:Nat} {pos:Pos} (a e it:L6) (hne:e≠it):Turn P w K (.Tuple elts k pos) (kQ K a) [e,it] e (λi h=>(∃old,IsEnum h e it i old)/\h.IsListIter it a i) where
 mem:=by simp
 obj:=λi h st b hb=>by
   obtain⟨⟨old,he⟩,⟨o,ho,hc,hd⟩⟩:=st;rcases Hh.mp hb with z|z
   . subst z;show#[_,he,λv z=>by cases (show Data.fields _=Data.cell v from z)]
   . have z:b=it:=↑z
     subst z;show#[o,ho,λv z=>by rw[hd] at z; cases z]
 keep:=λi h h' st kk=>by obtain⟨⟨old,he⟩,⟨o,ho,r⟩⟩:=st;show#[#[old,kk e 0x6 _ he],#[o,kk it 0x6 o ho,r]]
 item:=by
   intro X hP hw hK hc i pins s σ H E I hf st hg;subst hP hw hK;obtain⟨⟨old,he⟩,hit⟩:=st;let#[xs,x,hq,hx]:=hg;let#[its,rv,p,hz]:=I.list hq;have pt:s.heap.IsList a its.toArray:=p.isList;let#[u,hu,ru]:=rv.get hx;have hia:a≠it:=λz=>by
     subst z;let#[o1,h1,c1,_]:=hit;let#[o2,h2,c2,_]:=pt;rw[h1] at h2;cases h2;rw[c1] at c2;injection c2 with c2
     exact absurd c2 #[]
   have hea:e ∉ [it,a]:=λz=>by
     rcases Hh.mp z with z|z
     . exact hne z
     . have z:e=a:=↑z
       subst z;let#[o2,h2,c2,_]:=pt;rw[he] at h2;cases h2;injection (show Value.type "enumerate"=Value.type "list" from c2) with c2
       exact absurd c2 #[]
   have hlt:i<its.toArray.size:=by have:=(HV.mp hu).1;simpa using this
   refine Kr (Draws.list (A:=X.A.in1) (I.ok.hd hc) it a hia its.toArray) he #[hit,pt] hlt hne hea λy h' tk hy hout hst hT hsz hk=>?_;show#[5,Kc hout λh2 he2 hs2=>?_];have hs2:Heap.SameBut e h' h2:=hs2;have hyu:y=u:=by
     have hy:its.toArray[i]?=⇑y:=hy;have:its[i]?=⇑y:=↑hy
     rw[hu] at this;exact(Option.some.inj this).symm
   subst hyu;have helt:e<s.heap.objs.size:=Hm he;have hfr:H s.heap.objs.size=none:=I.hok.fresh (HY _);have hnS:s.heap.objs.size≠e:=JC helt;have hT2:h2.get? s.heap.objs.size=some { cls:=.type "tuple",data:=.seq (List.toArray [.int i tk,y]) }:=(hs2.2 _ hnS)\hT;show#[↥s.heap.objs.size,upd H s.heap.objs.size (.tup [.int i,x]),I.turnLaid (t':=tk+1) (ch:=[e,it]) (λb o hb q=>?_) hf (HY _) ?_,rfl,#[s.heap.objs.size,rfl,hfr,λxs' x' hq' hx'=>?_],#[#[y,by exact_mod_cast he2],?_],λb hb=>?_]
   . have h1:b≠e:=λz=>hb (by simp [z]);have h3:b≠it:=λz=>hb (by simp [z]);exact(hs2.2 b h1).trans (hk b o h1 h3 q)
   . show#[by show 2<=sizeLine; decide,[.int i tk,y],.cons #[tk,rfl] (.cons ru .nil),#[_,hT2,13]]
   . have:=I.list_inj hq' hq;subst this;rw[hx] at hx';cases hx';rfl
   . obtain⟨⟨o,ho,r⟩,_⟩:=hst;show#[o,(hs2.2 it hne.symm)\ho,r]
   . have hb0:=(hf b hb).1;rw[aM]
     . exact hb0
     . intro z;subst z;let#[o,ho,_]:=hit;rcases Hh.mp hb with z|z
       . exact hnS z
       . have z:s.heap.objs.size=it:=↑z
         exact absurd (Hm ho) (by rw[<- z]; exact Ia _)
 done:=by
   intro X hP hw hK hc i pins s σ H E I hf st hg;subst hP hw hK;obtain⟨⟨old,he⟩,hit⟩:=st;let#[xs,hq,hx]:=hg;let#[its,rv,p,hz]:=I.list hq;have pt:s.heap.IsList a its.toArray:=p.isList;have hl:=rv.length;have hia:a≠it:=λz=>by
     subst z;let#[o1,h1,c1,_]:=hit;let#[o2,h2,c2,_]:=pt;rw[h1] at h2;cases h2;rw[c1] at c2;injection c2 with c2
     exact absurd c2 #[]
   have hi:i=its.toArray.size:=by simp; lia
   refine wpAny_pyNext_enum_endD (Draws.list (A:=X.A.in1) (I.ok.hd hc) it a hia its.toArray) he (by rw[<- hi]; show#[hit,pt]) λh' eb=>#[rfl,?_]
   exact I.turnedL (t':=s.toks) (ch:=[e,it]) (λb o hb q=>eb b o (λz=>hb (by simp [z])) q) hf
 self:=λ_ _ _ _ _ st h=>by obtain⟨⟨old,he⟩,_⟩:=st;exact Jj he h
section
variable {X:Cx}
abbrev Bq (K:L7) (ta:TA):TI:=λσ H R=>ta σ H λvs H1=>∃a,vs=[↥a]/\(∃xs,aE K H1 a xs)/\R (kQ K a) H1
def Dj {a:Expr} {ta:TA} {p pos tpos:Pos} {elts:List Expr} {k:Nat} (hg:Gl X "enumerate") (hm:X.mg "enumerate"=none) (ha:PA X [a] ta) (hs:starEach [a] X.env=[(false,eval a X.env)]:=by rfl):PI X (.Tuple elts k tpos) (.Call (.Name "enumerate" p) [a] [] pos) (Bq X.K ta):=by
 intro pins s σ H R I h;refine Call_ (fV I hg hm qI (Ie (aQ (ha pos pins s σ H _ I h) λus s1 z149_=>?_) hs rfl));let#[vs,H1,I1,r1,q1]:=z149_;obtain⟨a,e,⟨xs,hq⟩,q⟩:=q1;subst e;cases r1 with
 | cons r rr =>
   cases rr;cases r;let#[its,rv,p,hz]:=I1.list hq;refine call_enumerate_list p.isList λh' he hit _ hk=>?_;refine Jj he ?_;show#[s1.heap.objs.size+1,[s1.heap.objs.size+1,s1.heap.objs.size],4,H1,rfl,I1.kept (t':=s1.toks) hk,CZ a (s1.heap.objs.size+1) s1.heap.objs.size (Kj _),#[#[.none,he],hit],λb hb=>?_,q];rcases Hh.mp hb with z|z
   . subst z;exact I1.fpOk (Ja _) (I1.hok.fresh (Ja _))
   . have z:b=s1.heap.objs.size:=↑z
     subst z;exact I1.fpOk (HY _) (I1.hok.fresh (HY _))
def Cf {K:L7} {a:L6} {xs:List V} {g:TG} {tb:TS} {D:bn} {σ:St} {H:Hp} (Pv:Nat->St->Hp->Prop) (h0:Pv 0 σ H) (hl:∀i σ H,i<=xs.length->Pv i σ H->aE K H a xs)
   (hs:∀i x σ H b,xs[i]?=⇑x->Pv i σ H->H b=none->g ↥b σ (upd H b (.tup [.int i,x])) λσ2 H2=>tb { D with nx:=Pv (i+1),ct:=Pv (i+1),bk:=D.nx } σ2 H2) (hd:∀σ H,Pv xs.length σ H->D.nx σ H) :
   ∃W:Nat->Nat->St->Hp->Prop,(∃m,W 0 m σ H)/\∀i m σ H,W i m σ H->((kQ K a).stop i H/\D.nx σ H)\/((kQ K a).go i H/\∃N:St->Hp->Prop,(∀σ' H',N σ' H'->∃m',m'<m/\W (i+1) m' σ' H')/\∀x H',(kQ K a).yld i H x H'->g x σ H' λσ2 H2=>tb { D with nx:=N,ct:=N,bk:=D.nx } σ2 H2):=by
 show#[λi m σ H=>m=xs.length - i/\i<=xs.length/\Pv i σ H,#[xs.length,by simp,Hw _,h0],?_];rintro i m σ H ⟨rfl,hi,p⟩;have q:=hl i σ H hi p;by_cases hlt:i<xs.length
 . refine .inr #[#[xs,xs[i],q,by simp [hlt]],Pv (i+1),λσ' H' p'=>#[xs.length - (i+1),∅,rfl,hlt,p'],λx H' y=>?_];let#[b,rfl,hb,y]:=y;rw[y xs xs[i] q (by simp [hlt])];exact hs i xs[i] σ H b (by simp [hlt]) p hb
 . have e:i=xs.length:=by lia
   subst e;exact .inl #[#[xs,q,rfl],hd σ H p]
end
end L2
namespace PySem
open Sem (wp)
abbrev bY (b:Bool) (h:Heap) (it l:L6) (k:Nat):Prop:=match b with|true=>h.IsTupleIter it l k|false=>h.IsListIter it l k
abbrev cA (b:Bool) (h:Heap) (l:L6) (xs:Array K'):Prop:=match b with|true=>h.IsTuple l xs|false=>h.IsList l xs
variable {h h':Heap} {it l:L6}
def bY.at {b:Bool} {k:Nat} (p:bY b h it l k) (e:∀o,h.get? it=⇑o->h'.get? it=⇑o):bY b h' it l k:=by cases b <;> (let#[o,ho,r]:=p; show#[o,e o ho,r])
variable {xs:Array K'}
def cA.at {b:Bool} (p:cA b h l xs) (e:∀o,h.get? l=⇑o->h'.get? l=⇑o):cA b h' l xs:=by cases b <;> (let#[o,ho,r]:=p; show#[o,e o ho,r])
def bY.extBut {b:Bool} {c:L6}{k:Nat} (p:bY b h it l k) (e:Heap.ExtBut c h h') (n:it≠c):bY b h' it l k:=p.at λo ho=>e _ _ n ho
def cA.extBut {b:Bool} {c:L6}(p:cA b h l xs) (e:Heap.ExtBut c h h') (n:l≠c):cA b h' l xs:=p.at λo ho=>e _ _ n ho
def bY.lt {b:Bool} {k:Nat} (p:bY b h it l k):it<h.objs.size:=by cases b <;> (let#[o,ho,r]:=p; exact Hm ho)
variable {b1 b2:Bool} {z i1 i2 l1 l2:L6} {k1 k2:Nat} {ys:Array K'} {a:K'}
section
variable {prog:Program} {w:World} {A:Around} {E:K'->L5->Prop} {s:L5}
def pX {b:Bool} {i:Nat} {items:Array K'} {x:K'} {Q:K'->L5->Prop} (p:bY b s.heap it l i) (q:cA b s.heap l items) (hx:items[i]?=⇑x)
   (hQ:∀h',bY b h' it l (i+1)->Heap.SameBut it s.heap h'->Q x { s with heap:=h' }):wpAny 0x3 A (Builtin.SmallTypes.nextOf ↥it) Q E s:=by
 cases b with
 | true=>exact L2.gx_nextOf_tup p q hx hQ
 | false=>exact wpAny_nextOf_list_item p q hx hQ
def sR {b:Bool} {i:Nat} {items:Array K'} {Q:K'->L5->Prop} (hh:A.handled=none) (p:bY b s.heap it l i) (q:cA b s.heap l items) (hx:items[i]?=none)
   (hE:∀h' e,Heap.ExtBut it s.heap h'->(∃o,h'.get? e=⇑o/\o.cls=.type "StopIteration")->E ↥e { s with heap:=h' }):wpAny 0x3 A (Builtin.SmallTypes.nextOf ↥it) Q E s:=by
 cases b with
 | true=>exact L2.gx_nextOf_tup_end hh p q hx hE
 | false=>exact wpAny_nextOf_list_end hh p q hx hE
def F1 {TI TO:L6}{x y b:K'}{Q:K'->L5->Prop} (D:ZipApart z TI TO i1 i2 l1 l2)
   (zZ:IsZip s.heap z TI TO .none) (zI:IsPair s.heap TI ↥i1 ↥i2) (zO:IsPair s.heap TO a b)
   (p1:bY b1 s.heap i1 l1 k1) (p2:bY b2 s.heap i2 l2 k2) (q1:cA b1 s.heap l1 xs) (q2:cA b2 s.heap l2 ys) (hx:xs[k1]?=⇑x) (hy:ys[k2]?=⇑y)
   (hQ:∀h',IsZip h' z TI TO (rawInt s.heap.objs.size)->IsPair h' TO x y->bY b1 h' i1 l1 (k1+1)->bY b2 h' i2 l2 (k2+1)->IsPair h' s.heap.objs.size x y->h'.objs.size=s.heap.objs.size+1 ->
     (∀c o,c≠z->c≠TO->c≠i1->c≠i2->s.heap.get? c=⇑o->h'.get? c=⇑o)->Q ↥s.heap.objs.size { s with heap:=h' }) :
   wpAny 0x3 A (Builtin.«zip.__next__» #[[↥z],[]]) (λfin s'=>∃v,fin=.done (.ret v)/\Q v s') E s:=by
 show wpAny _ _ (field ↥z 2 >>= _) _ _ _; refine HR (IR zZ rfl (x:=.bool false) rfl ?_); show wpAny _ _ (field ↥z 3 >>= _) _ _ _; refine HR (IR zZ rfl (x:=↥TI) rfl ?_); refine HR (JL zI rfl ?_); show wpAny _ _ (Builtin.SmallTypes.ownedTupleIsFree ↥z >>= _) _ _ _; refine HR ?_; unfold Builtin.SmallTypes.ownedTupleIsFree; refine HR (IR zZ rfl (x:=.none) rfl (Ha ?_)); simp only[if_true]; refine HR (KI ?_); refine HR (IR zZ rfl (x:=↥TO) rfl ?_);refine HR (Iu zZ 0x6 λh₁ zZ₁ hs₁=>?_); replace zZ₁:IsZip h₁ z TI TO .ellipsis:=zZ₁; refine HR ?_; simp only[List.zipIdx_cons,List.zipIdx_nil,KE,Kx];refine HR (HR (Kd ?_)); show wpAny _ _ (Builtin.SmallTypes.nextOf ↥i1 >>= _) _ _ _; refine HR (pX (p1.extBut hs₁.extBut D.i1z) (q1.extBut hs₁.extBut D.l1z) hx λh₂ h1₂ hs₂=>Ha ?_); have hTO₂:IsPair h₂ TO a b:=hs₂.extBut _ _ D.TOi1 (hs₁.extBut _ _ D.TOz zO); refine HR (JL hTO₂ rfl ?_); refine HR (KJ hTO₂ λh₃ hTO₃ hs₃=>?_); replace hTO₃:IsPair h₃ TO x b:=hTO₃; refine HR (wpAny_letGo (Ha ?_))
 refine HR (HR (Kd ?_)); show wpAny _ _ (Builtin.SmallTypes.nextOf ↥i2 >>= _) _ _ _; refine HR (pX (((p2.extBut hs₁.extBut D.i2z).extBut hs₂.extBut D.i12.symm).extBut hs₃.extBut D.TOi2.symm)
   (((q2.extBut hs₁.extBut D.l2z).extBut hs₂.extBut D.l2i1).extBut hs₃.extBut D.l2TO) hy λh₄ h2₄ hs₄=>Ha ?_)
 have hTO₄:IsPair h₄ TO x b:=hs₄.extBut _ _ D.TOi2 hTO₃; refine HR (JL hTO₄ rfl ?_); refine HR (KJ hTO₄ λh₅ hTO₅ hs₅=>?_); replace hTO₅:IsPair h₅ TO x y:=hTO₅; refine HR (wpAny_letGo (Ha (Ha ?_)));refine HR (JL hTO₅ rfl ?_); refine HR (wpAny_newTuple ?_); have hsz:h₅.objs.size=s.heap.objs.size:=(by rw[hs₅.1,hs₄.1,hs₃.1,hs₂.1,hs₁.1]); have hz₅:IsZip h₅ z TI TO .ellipsis:=hs₅.extBut _ _ D.TOz.symm (hs₄.extBut _ _ D.i2z.symm (hs₃.extBut _ _ D.TOz.symm (hs₂.extBut _ _ D.i1z.symm zZ₁))); have hk₅:∀c o,c≠z->c≠TO->c≠i1->c≠i2->s.heap.get? c=⇑o->h₅.get? c=⇑o:=λc o c1 c2 c3 c4 e =>
   hs₅.extBut _ _ c2 (hs₄.extBut _ _ c4 (hs₃.extBut _ _ c2 (hs₂.extBut _ _ c3 (hs₁.extBut _ _ c1 e))))
 have h1₅:bY b1 h₅ i1 l1 (k1+1):=((h1₂.extBut hs₃.extBut D.TOi1.symm).extBut hs₄.extBut D.i12).extBut hs₅.extBut D.TOi1.symm; have h2₅:bY b2 h₅ i2 l2 (k2+1):=h2₄.extBut hs₅.extBut D.TOi2.symm; have hzlt:z<h₅.objs.size:=Hm hz₅; have hTOlt:TO<h₅.objs.size:=Hm hTO₅; have hi1lt:i1<h₅.objs.size:=bY.lt h1₅; have hi2lt:i2<h₅.objs.size:=bY.lt h2₅; show wpAny _ _ (Builtin.SmallTypes.ownedTupleHandOut ↥z ↥h₅.objs.size >>= _) _ _ _; refine HR ?_; unfold Builtin.SmallTypes.ownedTupleHandOut; have hz₆:IsZip (h₅.push { cls:=.type "tuple",data:=.seq (List.toArray [x,y]) }) z TI TO .ellipsis:=HW _ hz₅
 refine HR (Iu hz₆ 0x6 λh₇ hz₇ hs₇=>?_); replace hz₇:IsZip h₇ z TI TO (rawInt h₅.objs.size):=hz₇; refine Iu hz₇ 0x6 λh₈ hz₈ hs₈=>?_; replace hz₈:IsZip h₈ z TI TO (rawInt h₅.objs.size):=hz₈; have up:∀c o,c≠z->h₅.get? c=⇑o->h₈.get? c=⇑o:=λc o c1 e=>hs₈.extBut _ _ c1 (hs₇.extBut _ _ c1 (HW _ e)); have hT₈:IsPair h₈ h₅.objs.size x y:=hs₈.extBut _ _ (JC hzlt) (hs₇.extBut _ _ (JC hzlt) (Hs _ rfl)); have hz8:h₈.objs.size=h₅.objs.size+1:=(by rw[hs₈.1,hs₇.1,Iy])
 rw[hsz] at hz₈ hT₈ hz8;refine Ha #[5,?_]; show Q ↥h₅.objs.size _;rw[hsz];exact hQ h₈ hz₈ (up _ _ D.TOz hTO₅) (h1₅.at λo e=>up _ o D.i1z e) (h2₅.at λo e=>up _ o D.i2z e) hT₈ hz8 λc o c1 c2 c3 c4 e=>up c o c1 (hk₅ c o c1 c2 c3 c4 e)
def Af {TI TO:L6}{b:K'}{Q:Fin->L5->Prop} (hh:A.handled=none) (D:ZipApart z TI TO i1 i2 l1 l2)
   (zZ:IsZip s.heap z TI TO .none) (zI:IsPair s.heap TI ↥i1 ↥i2) (zO:IsPair s.heap TO a b)
   (p1:bY b1 s.heap i1 l1 k1) (p2:bY b2 s.heap i2 l2 k2) (q1:cA b1 s.heap l1 xs) (q2:cA b2 s.heap l2 ys) (hend:xs[k1]?=none\/ys[k2]?=none)
   (hE:∀h' e,(∀c o,c≠z->c≠TO->c≠i1->c≠i2->s.heap.get? c=⇑o->h'.get? c=⇑o)->(∃o,h'.get? e=⇑o/\o.cls=.type "StopIteration")->E ↥e { s with heap:=h' }) :
   wpAny 0x3 A (Builtin.«zip.__next__» #[[↥z],[]]) Q E s:=by
 show wpAny _ _ (field ↥z 2 >>= _) _ _ _; refine HR (IR zZ rfl (x:=.bool false) rfl ?_); show wpAny _ _ (field ↥z 3 >>= _) _ _ _; refine HR (IR zZ rfl (x:=↥TI) rfl ?_); refine HR (JL zI rfl ?_); show wpAny _ _ (Builtin.SmallTypes.ownedTupleIsFree ↥z >>= _) _ _ _; refine HR ?_; unfold Builtin.SmallTypes.ownedTupleIsFree; refine HR (IR zZ rfl (x:=.none) rfl (Ha ?_)); simp only[if_true]; refine HR (KI ?_); refine HR (IR zZ rfl (x:=↥TO) rfl ?_);refine HR (Iu zZ 0x6 λh₁ zZ₁ hs₁=>?_); replace zZ₁:IsZip h₁ z TI TO .ellipsis:=zZ₁; refine HR ?_; simp only[List.zipIdx_cons,List.zipIdx_nil,KE,Kx]; refine HR (HR (Kd ?_)); show wpAny _ _ (Builtin.SmallTypes.nextOf ↥i1 >>= _) _ _ _;cases hx:xs[k1]? with
 | none =>
   refine HR (sR hh (p1.extBut hs₁.extBut D.i1z) (q1.extBut hs₁.extBut D.l1z) hx λh₂ e hs₂ he=>?_); let#[oe,hoe,hce]:=he; have hz₂:IsZip h₂ z TI TO .ellipsis:=hs₂ _ _ D.i1z.symm zZ₁; have hez:e≠z:=(λx=>by subst x; rw[hz₂] at hoe; cases hoe; simp at hce); refine Iu hz₂ 0x6 λh₃ _ hs₃=>hE h₃ e (λc o c1 _ c3 _ x=>hs₃.extBut _ _ c1 (hs₂ _ _ c3 (hs₁.extBut _ _ c1 x))) #[oe,hs₃.extBut _ _ hez hoe,hce]
 | some x =>
   have hy:ys[k2]?=none:=(by rcases hend with h|h; rw[hx] at h; cases h; exact h); refine HR (pX (p1.extBut hs₁.extBut D.i1z) (q1.extBut hs₁.extBut D.l1z) hx λh₂ h1₂ hs₂=>Ha ?_); have hTO₂:IsPair h₂ TO a b:=hs₂.extBut _ _ D.TOi1 (hs₁.extBut _ _ D.TOz zO); refine HR (JL hTO₂ rfl ?_); refine HR (KJ hTO₂ λh₃ hTO₃ hs₃=>?_); refine HR (wpAny_letGo (Ha ?_)); refine HR (HR (Kd ?_)); show wpAny _ _ (Builtin.SmallTypes.nextOf ↥i2 >>= _) _ _ _; refine HR (sR hh (((p2.extBut hs₁.extBut D.i2z).extBut hs₂.extBut D.i12.symm).extBut hs₃.extBut D.TOi2.symm)
     (((q2.extBut hs₁.extBut D.l2z).extBut hs₂.extBut D.l2i1).extBut hs₃.extBut D.l2TO) hy λh₄ e hs₄ he=>?_)
   let#[oe,hoe,hce]:=he; have hz₄:IsZip h₄ z TI TO .ellipsis:=hs₄ _ _ D.i2z.symm (hs₃.extBut _ _ D.TOz.symm (hs₂.extBut _ _ D.i1z.symm zZ₁)); have hez:e≠z:=(λx=>by subst x; rw[hz₄] at hoe; cases hoe; simp at hce); refine Iu hz₄ 0x6 λh₅ _ hs₅=>hE h₅ e (λc o c1 c2 c3 c4 x=>hs₅.extBut _ _ c1 (hs₄ _ _ c4 (hs₃.extBut _ _ c2 (hs₂.extBut _ _ c3 (hs₁.extBut _ _ c1 x))))) #[oe,hs₅.extBut _ _ hez hoe,hce]
def Bv {TI TO:L6}{x y b:K'}{Q:Hl K'->L5->Prop} (D:ZipApart z TI TO i1 i2 l1 l2)
   (zZ:IsZip s.heap z TI TO .none) (zI:IsPair s.heap TI ↥i1 ↥i2) (zO:IsPair s.heap TO a b)
   (p1:bY b1 s.heap i1 l1 k1) (p2:bY b2 s.heap i2 l2 k2) (q1:cA b1 s.heap l1 xs) (q2:cA b2 s.heap l2 ys) (hx:xs[k1]?=⇑x) (hy:ys[k2]?=⇑y)
   (hQ:∀h',IsZip h' z TI TO (rawInt s.heap.objs.size)->IsPair h' TO x y->bY b1 h' i1 l1 (k1+1)->bY b2 h' i2 l2 (k2+1)->IsPair h' s.heap.objs.size x y->h'.objs.size=s.heap.objs.size+1 ->
     (∀c o,c≠z->c≠TO->c≠i1->c≠i2->s.heap.get? c=⇑o->h'.get? c=⇑o)->Q ⇑↥s.heap.objs.size { s with heap:=h' }) :
   wpAny 0x3 A (pyNext ↥z) Q E s:=by
 have hT:s.TypeIs ↥z "zip":=#[_,zZ,rfl]; unfold pyNext;exact HR (K7 (wpAny_callSpecial?_slot (name:=Str.ofString "__next__") hT KL
   (Ix KL hT F.entry_zip_next
     (F1 D zZ zI zO p1 p2 q1 q2 hx hy λh' a1 a2 a3 a4 a5 a6 a7=>Ha (hQ h' a1 a2 a3 a4 a5 a6 a7)) (F.args_zip_next_1 _))))
def FR {TI TO:L6}{b:K'}{Q:Hl K'->L5->Prop} (hh:A.handled=none) (D:ZipApart z TI TO i1 i2 l1 l2)
   (zZ:IsZip s.heap z TI TO .none) (zI:IsPair s.heap TI ↥i1 ↥i2) (zO:IsPair s.heap TO a b)
   (p1:bY b1 s.heap i1 l1 k1) (p2:bY b2 s.heap i2 l2 k2) (q1:cA b1 s.heap l1 xs) (q2:cA b2 s.heap l2 ys) (hend:xs[k1]?=none\/ys[k2]?=none)
   (hQ:∀h',(∀c o,c≠z->c≠TO->c≠i1->c≠i2->s.heap.get? c=⇑o->h'.get? c=⇑o)->Q none { s with heap:=h' }):wpAny 0x3 A (pyNext ↥z) Q E s:=by
 have hT:s.TypeIs ↥z "zip":=#[_,zZ,rfl]; unfold pyNext; refine HR (K7 (wpAny_callSpecial?_slot (name:=Str.ofString "__next__") hT KL
   (Ix KL hT F.entry_zip_next (Af hh D zZ zI zO p1 p2 q1 q2 hend λh' e hk he=>?_) (F.args_zip_next_1 _))))
 let#[o,ho,hc]:=he; refine HR (wpAny_isInstance (T:="StopIteration") (b:=true) #[o,ho,hc] isSubtype_stop ?_);exact Ha (hQ _ hk)
end
abbrev dP (b:Bool) (l:L6):Obj:={ cls:=.type (match b with|true=>"tuple_iterator" | false=>"list_iterator"),data:=.fields (List.toArray [↥l,.int 0 0]) }
def C7 (b1 b2:Bool) (l1 l2:L6) (xs ys:Array K') :
   Meets (Builtin.«zip.__new__» #[[.type "zip",↥l1,↥l2],[]]) (λ_ R s=>cA b1 s.heap l1 xs/\cA b2 s.heap l2 ys /\
     R (.ok (.ret ↥((((s.heap.push (dP b1 l1)).push (dP b2 l2)).push { cls:=.type "tuple",data:=.seq (List.toArray [↥s.heap.objs.size,↥(s.heap.push (dP b1 l1)).objs.size]) }).push { cls:=.type "tuple",data:=.seq (List.toArray [.none,.none]) }).objs.size))
       { s with heap:=(((((s.heap.push (dP b1 l1)).push (dP b2 l2)).push { cls:=.type "tuple",data:=.seq (List.toArray [↥s.heap.objs.size,↥(s.heap.push (dP b1 l1)).objs.size]) }).push { cls:=.type "tuple",data:=.seq (List.toArray [.none,.none]) }).push
         { cls:=.type "zip",data:=.fields (List.toArray [.none,.bool false,.bool false,↥((s.heap.push (dP b1 l1)).push (dP b2 l2)).objs.size,↥(((s.heap.push (dP b1 l1)).push (dP b2 l2)).push { cls:=.type "tuple",data:=.seq (List.toArray [↥s.heap.objs.size,↥(s.heap.push (dP b1 l1)).objs.size]) }).objs.size]) }) }) :=
 .of_wp λprog w A R s h=>by
   let#[hp,g,d,tk,os]:=s; let#[q1,q2,h]:=h;have hsub:=sub_zip;have q2':cA b2 (hp.push (dP b1 l1)) l2 ys:=q2.at λo e=>HW _ e;cases b1 with
   | true =>
     have hL1:Heap.IsTuple (Shared.heap ⟨hp,g,d,tk,os⟩) l1 xs:=q1;cases b2 with
     | true =>
       have hL2:Heap.IsTuple (Shared.heap ⟨hp.push { cls:=.type "tuple_iterator",data:=.fields (List.toArray [↥l1,.int 0 0]) },g,d,tk,os⟩) l2 ys:=q2'
       wp_walk using J7 hL1,J7 hL2; show#[5,h]
     | false =>
       have hL2:Heap.IsList (Shared.heap ⟨hp.push { cls:=.type "tuple_iterator",data:=.fields (List.toArray [↥l1,.int 0 0]) },g,d,tk,os⟩) l2 ys:=q2'
       wp_walk using J7 hL1,J0 hL2; show#[5,h]
   | false =>
     have hL1:Heap.IsList (Shared.heap ⟨hp,g,d,tk,os⟩) l1 xs:=q1;cases b2 with
     | true =>
       have hL2:Heap.IsTuple (Shared.heap ⟨hp.push { cls:=.type "list_iterator",data:=.fields (List.toArray [↥l1,.int 0 0]) },g,d,tk,os⟩) l2 ys:=q2'
       wp_walk using J0 hL1,J7 hL2; show#[5,h]
     | false =>
       have hL2:Heap.IsList (Shared.heap ⟨hp.push { cls:=.type "list_iterator",data:=.fields (List.toArray [↥l1,.int 0 0]) },g,d,tk,os⟩) l2 ys:=q2'
       wp_walk using J0 hL1,J0 hL2; show#[5,h]
section
variable {prog:Program} {w:World} {A:Around} {E:K'->L5->Prop} {s:L5}
def tt {b:Bool} (e:h.get? it=⇑(dP b l)):bY b h it l 0:=by cases b <;> show#[_,e,7]
def CI {Q:K'->L5->Prop} (q1:cA b1 s.heap l1 xs) (q2:cA b2 s.heap l2 ys)
   (h:∀h' (n:Nat),n=s.heap.objs.size->IsZip h' (n+4) (n+2) (n+3) .none->IsPair h' (n+2) ↥n ↥(n+1)->IsPair h' (n+3) .none .none->bY b1 h' n l1 0->bY b2 h' (n+1) l2 0 ->
     (∀c o,s.heap.get? c=⇑o->h'.get? c=⇑o)->Q ↥(n+4) { s with heap:=h' }) :
   wpAny 0x3 A (call (.type "zip") [↥l1,↥l2]) Q E s:=by
 refine callType_new F.called_zip #[] (F.typeCall_zip_2 _ _) (F.newCall_zip_2 _ _) (λobj=>F.args_object_init_3 obj _ _) F.entry_zip_new (C7 b1 b2 l1 l2 xs ys) #[q1,q2,?_];generalize ho1:dP b1 l1=o1;generalize ho2:dP b2 l2=o2;have z1:(s.heap.push o1).objs.size=s.heap.objs.size+1:=Iy ..;have z2:((s.heap.push o1).push o2).objs.size=s.heap.objs.size+2:=by rw[Iy,z1]
 rw[z1,z2];generalize hT1:({ cls:=.type "tuple",data:=.seq (List.toArray [↥s.heap.objs.size,↥(s.heap.objs.size+1)]) }:Obj)=t1;generalize hT2:({ cls:=.type "tuple",data:=.seq (List.toArray [.none,.none]) }:Obj)=t2;have z3:(((s.heap.push o1).push o2).push t1).objs.size=s.heap.objs.size+3:=by rw[Iy,z2]
 have z4:((((s.heap.push o1).push o2).push t1).push t2).objs.size=s.heap.objs.size+4:=by rw[Iy,z3]
 rw[z3,z4];generalize hZ:({ cls:=.type "zip",data:=.fields (List.toArray [.none,.bool false,.bool false,↥(s.heap.objs.size+2),↥(s.heap.objs.size+3)]) }:Obj)=tz;have g5:=Hs ((((s.heap.push o1).push o2).push t1).push t2) (o:=tz) (by rw[<- hZ]; rfl);have g4:=HW tz (Hs (((s.heap.push o1).push o2).push t1) (o:=t2) (by rw[<- hT2]; rfl));have g3:=HW tz (HW t2 (Hs ((s.heap.push o1).push o2) (o:=t1) (by rw[<- hT1]; rfl)));have g2:=HW tz (HW t2 (HW t1 (Hs (s.heap.push o1) (o:=o2) (by rw[<- ho2]; rfl))));have g1:=HW tz (HW t2 (HW t1 (HW o2 (Hs s.heap (o:=o1) (by rw[<- ho1]; rfl)))));rw[z4] at g5;rw[z3] at g4;rw[z2] at g3;rw[z1] at g2;subst hZ hT1 hT2 ho1 ho2;show#[#[_,g5,rfl],h _ s.heap.objs.size rfl g5 g3 g4 (tt g1) (tt g2) λc o x =>
   HW _ (HW _ (HW _ (HW _ (HW _ x))))]
end
end PySem
namespace L2
open PySem PySem.Spec PyProof.Rows
abbrev dn (b:Bool) (K:L7) (H:Hp) (l:L6) (xs:List V):Prop:=match b with|true=>aG K H l xs|false=>aE K H l xs
variable {X:Cx} {H:Hp} {xs:List V}
def Inv.sqv {pins:List (L6×Obj)} {σ:St} {s:L5} {b:Bool} {l:L6} (I:Inv X pins σ H s) (h:dn b X.K H l xs):∃its:List K',aU xs its/\cA b s.heap l its.toArray:=by
 cases b with
 | true=>let#[its,r,p,_]:=I.tuple h; show#[its,r,p]
 | false=>let#[its,r,p,_]:=I.list h; show#[its,r,p.isList]
def Inv.sqv_inj {pins:List (L6×Obj)} {σ:St} {s:L5} {b:Bool} {l:L6} {ys:List V}(I:Inv X pins σ H s) (h:dn b X.K H l xs) (h':dn b X.K H l ys):xs=ys:=by
 cases b with
 | true=>exact I.tuple_inj h h'
 | false=>exact I.list_inj h h'
def cA.lt {b:Bool} {h:Heap} {l:L6} {xs:Array K'} (p:cA b h l xs):l<h.objs.size:=by cases b <;> (let#[o,ho,r]:=p; exact Hm ho)
abbrev jk (K:L7) (b1 b2:Bool) (l1 l2:L6):It :=
 #[λi H=>∃xs ys x y,dn b1 K H l1 xs/\dn b2 K H l2 ys/\xs[i]?=⇑x/\ys[i]?=⇑y,
  λi H v H'=>∃b,v=↥b/\H b=none/\∀xs ys x y,dn b1 K H l1 xs->dn b2 K H l2 ys->xs[i]?=⇑x->ys[i]?=⇑y->H'=upd H b (.tup [x,y]),
  λi H=>∃xs ys,dn b1 K H l1 xs/\dn b2 K H l2 ys/\(xs[i]?=none\/ys[i]?=none)]
variable {K:L7}
def zo {P:Program} {w:World} {elts:List Expr} {k:Nat} {pos:Pos} (b1 b2:Bool) (z TI TO i1 i2 l1 l2:L6) (D:ZipApart z TI TO i1 i2 l1 l2) :
   Turn P w K (.Tuple elts k pos) (jk K b1 b2 l1 l2) [z,TI,TO,i1,i2] z (λi h=>IsZip h z TI TO .none/\IsPair h TI ↥i1 ↥i2/\(∃a b,IsPair h TO a b)/\bY b1 h i1 l1 i/\bY b2 h i2 l2 i) where
 mem:=by simp
 obj:=λi h st b hb=>by
   obtain⟨hz,hTI,⟨a,c,hTO⟩,h1,h2⟩:=st;simp only[Hh,ID,or_false] at hb;rcases hb with rfl|rfl|rfl|rfl|rfl
   . show#[_,hz,λv z=>by cases (show Data.fields _=Data.cell v from z)]
   . show#[_,hTI,λv z=>by cases (show Data.seq _ _=Data.cell v from z)]
   . show#[_,hTO,λv z=>by cases (show Data.seq _ _=Data.cell v from z)]
   . cases b1 <;> (let#[o,ho,hc,hd]:=h1; show#[o,ho,λv z=>by rw[hd] at z; cases z])
   . cases b2 <;> (let#[o,ho,hc,hd]:=h2; show#[o,ho,λv z=>by rw[hd] at z; cases z])
 keep:=λi h h' st kk=>by obtain⟨hz,hTI,⟨a,c,hTO⟩,h1,h2⟩:=st;show#[kk _ 0x6 _ hz,kk _ 0x6 _ hTI,#[a,c,kk _ 0x6 _ hTO],h1.at λo e=>kk _ 0x6 o e,h2.at λo e=>kk _ 0x6 o e]
 item:=by
   intro X hP hw hK hc i pins s σ H E I hf st hg;subst hP hw hK;obtain⟨hz,hTI,⟨oa,ob,hTO⟩,h1,h2⟩:=st;let#[xs,ys,x,y,e1,e2,hx,hy]:=hg;let#[is1,r1,p1]:=I.sqv e1;let#[is2,r2,p2]:=I.sqv e2;let#[u,hu,ru]:=r1.get hx;let#[v,hv,rv]:=r2.get hy;refine Bv D hz hTI hTO h1 h2 p1 p2 ↑hu ↑hv λh' a1 a2 a3 a4 a5 a6 hk=>?_;show#[5,wpAny_letOwnedTupleGo_zip a1 λh3 hz3 hs3=>?_];have hs3:Heap.SameBut z h' h3:=hs3;have hzlt:z<s.heap.objs.size:=Hm hz;have hfr:H s.heap.objs.size=none:=I.hok.fresh (HY _);have hnS:s.heap.objs.size≠z:=JC hzlt;have hT3:IsPair h3 s.heap.objs.size u v:=(hs3.2 _ hnS)\a5;show#[↥s.heap.objs.size,upd H s.heap.objs.size (.tup [x,y]),I.turnLaid (t':=s.toks) (ch:=[z,TI,TO,i1,i2]) (λb o hb q=>?_) hf (HY _) ?_,rfl,#[s.heap.objs.size,rfl,hfr,λxs' ys' x' y' q1 q2 hx' hy'=>?_],#[hz3,?_,#[u,v,?_],?_,?_],λb hb=>?_]
   . have n1:b≠z:=λzz=>hb (by simp [zz]);have n3:b≠TO:=λzz=>hb (by simp [zz]);have n4:b≠i1:=λzz=>hb (by simp [zz]);have n5:b≠i2:=λzz=>hb (by simp [zz]);exact(hs3.2 b n1).trans (hk b o n1 n3 n4 n5 q)
   . show#[by show 2<=sizeLine; decide,[u,v],.cons ru (.cons rv .nil),#[_,hT3,13]]
   . have t1:=I.sqv_inj q1 e1;have t2:=I.sqv_inj q2 e2;subst t1 t2;rw[hx] at hx';rw[hy] at hy';cases hx';cases hy';rfl
   . exact(hs3.2 _ D.TIz).trans (hk _ _ D.TIz D.TITO D.TIi1 D.TIi2 hTI)
   . exact(hs3.2 _ D.TOz).trans a2
   . exact a3.at λo e=>(hs3.2 _ D.i1z)\e
   . exact a4.at λo e=>(hs3.2 _ D.i2z)\e
   . have hb0:=(hf b hb).1;rw[aM]
     . exact hb0
     . intro zz;subst zz;simp only[Hh,ID,or_false] at hb;rcases hb with e|e|e|e|e
       . exact hnS e
       . exact absurd (Hm hTI) (by rw[<- e]; exact Ia _)
       . exact absurd (Hm hTO) (by rw[<- e]; exact Ia _)
       . exact absurd h1.lt (by rw[<- e]; exact Ia _)
       . exact absurd h2.lt (by rw[<- e]; exact Ia _)
 done:=by
   intro X hP hw hK hc i pins s σ H E I hf st hg;subst hP hw hK;obtain⟨hz,hTI,⟨oa,ob,hTO⟩,h1,h2⟩:=st;let#[xs,ys,e1,e2,hend]:=hg;let#[is1,r1,p1]:=I.sqv e1;let#[is2,r2,p2]:=I.sqv e2;refine FR (I.ok.hd hc) D hz hTI hTO h1 h2 p1 p2 ?_ λh' hk=>#[rfl,?_]
   . rcases hend with h|h
     . left; have:=r1.none_of h; simpa using this
     . right; have:=r2.none_of h; simpa using this
   . exact I.turnedL (t':=s.toks) (ch:=[z,TI,TO,i1,i2]) (λb o hb q=>hk b o (λzz=>hb (by simp [zz])) (λzz=>hb (by simp [zz])) (λzz=>hb (by simp [zz])) (λzz=>hb (by simp [zz])) q) hf
 self:=λ_ _ _ _ _ st h=>wpAny_pyIter_zip st.1 h
section
variable {X:Cx}
abbrev EA (b1 b2:Bool) (K:L7) (ta:TA):TI:=λσ H R=>ta σ H λvs H1=>∃l1 l2,vs=[↥l1,↥l2]/\(∃xs,dn b1 K H1 l1 xs)/\(∃ys,dn b2 K H1 l2 ys)/\R (jk K b1 b2 l1 l2) H1
def ql (b1 b2:Bool) {a b:Expr} {ta:TA} {p pos tpos:Pos} {elts:List Expr} {k:Nat} (hg:Gl X "zip") (hm:X.mg "zip"=none) (ha:PA X [a,b] ta) (hs:starEach [a,b] X.env=(false,eval a X.env)::starEach [b] X.env:=by rfl) (hs2:(backTo pos (starEach [b] X.env)).any (·.1)=false:=by rfl) :
   PI X (.Tuple elts k tpos) (.Call (.Name "zip" p) [a,b] [] pos) (EA b1 b2 X.K ta):=by
 intro pins s σ H R I h;refine Call_ (fV I hg hm EN (Ie (aQ (ha pos pins s σ H _ I h) λus s1 z150_=>?_) hs hs2));let#[vs,H1,I1,r1,q1]:=z150_;obtain⟨l1,l2,e,⟨xs,hx⟩,⟨ys,hy⟩,q⟩:=q1;subst e;cases r1 with
 | cons r rr =>
   cases rr with
   | cons r' rr =>
     cases rr;cases r;cases r';let#[is1,v1,p1]:=I1.sqv hx;let#[is2,v2,p2]:=I1.sqv hy;refine CI p1 p2 λh' n hn hz hTI hTO h1 h2 hk=>?_;subst hn;refine wpAny_pyIter_zip hz ?_;show#[s1.heap.objs.size+4,[s1.heap.objs.size+4,s1.heap.objs.size+2,s1.heap.objs.size+3,s1.heap.objs.size,s1.heap.objs.size+1],4,H1,rfl,I1.kept (t':=s1.toks) hk,zo b1 b2 _ _ _ _ _ l1 l2 (zipApart_new (cA.lt p1) (cA.lt p2)),#[hz,hTI,#[4,hTO],h1,h2],λb hb=>?_,q];have hb':s1.heap.objs.size<=b:=by simp only[Hh,ID,or_false] at hb;rcases hb with e|e|e|e|e <;> rw[e] <;> first|exact HY _|exact Jq _ _
     exact I1.fpOk hb' (I1.hok.fresh hb')
def pD {b1 b2:Bool} {l1 l2:L6} {ys:List V}{g:TG} {tb:TS} {D:bn} {σ:St} (Pv:Nat->St->Hp->Prop) (h0:Pv 0 σ H) (hl:∀i σ H,i<=min xs.length ys.length->Pv i σ H->dn b1 K H l1 xs/\dn b2 K H l2 ys)
   (hs:∀i x y σ H b,xs[i]?=⇑x->ys[i]?=⇑y->Pv i σ H->H b=none->g ↥b σ (upd H b (.tup [x,y])) λσ2 H2=>tb { D with nx:=Pv (i+1),ct:=Pv (i+1),bk:=D.nx } σ2 H2) (hd:∀σ H,Pv (min xs.length ys.length) σ H->D.nx σ H) :
   ∃W:Nat->Nat->St->Hp->Prop,(∃m,W 0 m σ H)/\∀i m σ H,W i m σ H->((jk K b1 b2 l1 l2).stop i H/\D.nx σ H)\/((jk K b1 b2 l1 l2).go i H/\∃N:St->Hp->Prop,(∀σ' H',N σ' H'->∃m',m'<m/\W (i+1) m' σ' H')/\∀x H',(jk K b1 b2 l1 l2).yld i H x H'->g x σ H' λσ2 H2=>tb { D with nx:=N,ct:=N,bk:=D.nx } σ2 H2):=by
 show#[λi m σ H=>m=min xs.length ys.length - i/\i<=min xs.length ys.length/\Pv i σ H,#[min xs.length ys.length,by simp,Hw _,h0],?_];rintro i m σ H ⟨rfl,hi,p⟩;let#[q1,q2]:=hl i σ H hi p;by_cases hlt:i<min xs.length ys.length
 . have l1':i<xs.length:=by lia
   have l2':i<ys.length:=by lia
   refine .inr #[#[xs,ys,xs[i],ys[i],q1,q2,by simp [l1'],by simp [l2']],Pv (i+1),λσ' H' p'=>#[min xs.length ys.length - (i+1),∅,rfl,hlt,p'],λx H' y=>?_];let#[b,rfl,hb,y]:=y;rw[y xs ys xs[i] ys[i] q1 q2 (by simp [l1']) (by simp [l2'])];exact hs i xs[i] ys[i] σ H b (by simp [l1']) (by simp [l2']) p hb
 . have e:i=min xs.length ys.length:=by lia
   subst e;refine .inl #[#[xs,ys,q1,q2,?_],hd σ H p];rcases Nat.le_total xs.length ys.length with h|h
   . left; rw[KM h]; exact Jm (HY _)
   . right; rw[Kk h]; exact Jm (HY _)
end
structure ClsOk (K:W.Frag) (mg:Str->Option Value) (name:Str) (C:Addr):Prop where
 cl:Cls K C
 g:mg name=⇑↥C
structure MetOk (K:W.Frag) (C:Addr) (m qual:Str) (st:Stmt) (ps:List Str) (f:Addr) (fd:FuncData):Prop where
 F:Fun K m qual st f fd
 b:d9 K fd ps []
 m:Meth K C m f
structure IniOk (K:W.Frag) (C:Addr) (qual:Str) (st:Stmt) (ps:List Str) (f:Addr) (fd:FuncData):Prop where
 F:Fun K "__init__" qual st f fd
 b:d9 K fd ps []
 M:Mk K C f
section
variable {X:Cx} {k:Nat} {C f:L6} {fd:FuncData} {ps:List Str} {sp:Sp} {x m qual:Str} {st:Stmt} {p pos apos:Pos} {o e:Expr} {es:List Expr} {ta:TE} {t:TA}
def pY (Cc:ClsOk X.K X.mg x C) (D:IniOk X.K C qual st ps f fd) (G:FnOk X.prog X.w X.K X.mg X.base CX0 k f fd ps sp) (hr:Room (k+1) X.A) (ha:PA X (e::es) t) (hg:Gl X x:=by rfl)
   (hdb:(x==("__debug__":Str))=false:=by decide) (he:starEach (e::es) X.env=(false,eval e X.env)::starEach es X.env:=by rfl) (hpl:(backTo pos (starEach es X.env)).any (·.1)=false:=by rfl) :
   PE X (.Call (.Name x p) (e::es) [] pos) (rZ C sp [] E0 t):=B' D.M G hr hg Cc.g D.b .nil bM ha hdb he hpl
def cJ {C:L6} {m qual:Str} {st:Stmt} {ps:List Str} {f:L6} {oc:K'} {od an:Hl L6} {osl:Array (Hl K')} {kV doc pm cdv ct:K'}
   (a:PySem.W.findIn K ↥C m=⇑⇑↥f) (i:PySem.W.isFn K ↥f=true) (l:K.lookup f=⇑#[oc,od,.func (PySem.W.fnOf m qual (cz st) (aP st) (aS st) .none kV doc pm an cdv ct),osl]) (c:PySem.W.codeIn K cdv qual=true) (k:PySem.W.keepIn K ↥f=true)
   (b:∀(kV doc pm:K') (an:Hl L6) (cdv ct:K') (us:List K'),us.length=ps.length->bindArgs (PySem.W.fnOf m qual (cz st) (aP st) (aS st) .none kV doc pm an cdv ct) #[us,[]]=pure (ps.zip us)) :
   MetOk K C m qual st ps f (PySem.W.fnOf m qual (cz st) (aP st) (aS st) .none kV doc pm an cdv ct) :=
 #[gn l c k,(gn l c k).binds b,#[a,i,k]]
def px {C:L6} {qual:Str} {st:Stmt} {ps:List Str} {f:L6} {oc:K'} {od an:Hl L6} {osl:Array (Hl K')} {kV doc pm cdv ct:K'}
   (mk:PySem.W.makesIn K C=true) (kc:PySem.W.keepIn K ↥C=true) (a:PySem.W.findIn K ↥C "__init__"=⇑⇑↥f) (i:PySem.W.isFn K ↥f=true) (l:K.lookup f=⇑#[oc,od,.func (PySem.W.fnOf "__init__" qual (cz st) (aP st) (aS st) .none kV doc pm an cdv ct),osl]) (c:PySem.W.codeIn K cdv qual=true) (k:PySem.W.keepIn K ↥f=true)
   (b:∀(kV doc pm:K') (an:Hl L6) (cdv ct:K') (us:List K'),us.length=ps.length->bindArgs (PySem.W.fnOf "__init__" qual (cz st) (aP st) (aS st) .none kV doc pm an cdv ct) #[us,[]]=pure (ps.zip us)) :
   IniOk K C qual st ps f (PySem.W.fnOf "__init__" qual (cz st) (aP st) (aS st) .none kV doc pm an cdv ct) :=
 #[gn l c k,(gn l c k).binds b,#[mk,a,i,kc]]
end
def bV {A:Around} (h:A.units+64<cLine):A.units+1<cLine:=by lia
section
variable {prog:Program} {w:World} {A:Around} {E:K'->L5->Prop} {s:L5}
open HT in
def Gb {t sl:L6} {items:Array K'} {vl vu:K'} {lo hi:Hl Int} {Q:K'->L5->Prop} (ht:IsTup s.heap t items) (hs:s.heap.IsSliceOf sl vl vu .none) (pl:IsPart vl lo) (pu:IsPart vu hi)
   (hw:sIx items.size 0 lo=0/\sIx items.size items.size hi=items.size) (h:Q ↥t s):wpAny 0x3 A (getItem ↥t ↥sl) Q E s:=by
 let#[os,hos,hcs,hds]:=id hs;have tS:s.TypeIs ↥sl "slice":=#[os,hos,hcs]
 unfold getItem; try with_reducible refine IW ?_
 first|refine HR (Ha ?_)|skip
 refine HR (Kf ht.typeIs #[] ?_); refine HR (wpAny_callSpecial?_slot (name:=Str.ofString "__getitem__") ht.typeIs Im (Ix Im ht.typeIs entry_tuple_getitem ?_ (args_tuple_getitem _ _)));show wpAny _ _ (Builtin.Tuple.tupleItemsOf ↥t >>= _) _ _ s; refine HR (tupleItemsOf_ ht ?_); refine HR (Jl tS ?_); rw[He #[]]; refine HR (wH hs pl pu ?_);have yes:(((sIx items.size 0 lo:Nat):Int)==0&&(1:Int)==1&&(sIx items.size items.size hi - sIx items.size 0 lo)==items.size)=true:=by rw[hw.1,hw.2];simp
 show wpAny _ _ (if(((sIx items.size 0 lo:Nat):Int)==0&&(1:Int)==1&&(sIx items.size items.size hi - sIx items.size 0 lo)==items.size)=true then _ else _) _ _ s; rw[He yes];show wpAny _ _ (Builtin.Tuple.tupleIsExact ↥t >>= _) _ _ s;unfold Builtin.Tuple.tupleIsExact;refine HR (HR (Jl ht.typeIs (Ha ?_)));rw[He #[]];exact HR (KI (HR (Ha (Ha #[5,Ha h]))))
end
abbrev sw (K:L7):V->Hl Int->Hl Int->Hp->VK->Prop:=λx lo hi H Q=>∃a xs,x=↥a/\aG K H a xs /\
 (HT.sIx xs.length 0 lo=0/\HT.sIx xs.length xs.length hi=xs.length)/\Q ↥a H
def Dd :fq X (sw X.K):=by
 intro pins s σ H x v vl vu lo hi sl Q I rx hs pl pu h;let#[a,xs,rfl,hx,hw,q]:=h;cases rx;let#[its,r,ht,hz]:=I.tuple hx;have hlen:its.toArray.size=xs.length:=by rw[Hn]; exact r.length.symm
 show#["tuple",_,Im.lookup,ht.typeIs,Gb ht hs pl pu (by rw[hlen]; exact hw) #[↥a,H,I,rfl,q]]
abbrev vS (K:L7):V->Hl Int->Hl Int->Hp->VK->Prop:=λx lo hi H Q=>tK K x lo hi H Q\/sw K x lo hi H Q
def tU :fq X (vS X.K):=Dz.or Dd
def rg {Q:VK} {a:L6} {lo hi:Hl Int} (h:aG K H a xs) (q:∀p H',aB H H'->aG K H' p (dH xs lo hi)->Q ↥p H'):vS K ↥a lo hi H Q:=by
 by_cases hw:HT.sIx xs.length 0 lo=0/\HT.sIx xs.length xs.length hi=xs.length
 . refine .inr #[a,xs,rfl,h,hw,q a H (aB.refl _) ?_];have:dH xs lo hi=xs:=by unfold dH;rw[hw.1,hw.2,Kw,Nat.sub_zero,IP]
   rw[this];exact h
 . exact .inl #[a,xs,rfl,h,hw,λp hp=>q p _ (aB.new hp) (aG.of aH)]
end L2
namespace K12
open PySem L2
abbrev step (acc:List Str) (s:Str):List Str:=if s∈acc then acc else acc++[s]
abbrev onceL (ss:List Str):List Str:=ss.foldl step []
abbrev dN (as:List V):List Str:=as.filterMap λv=>match v with | .str s=>⇑s|_=>none
def BB (a b:List V):dN (a++b)=dN a++dN b:=List.filterMap_append ..
def FP (i:Int):dN [.int i]=[]:=rfl
def Fy (acc:List Str) (s:Str):∀x∈acc,x∈step acc s:=λx hx=>by
 unfold step;split
 . exact hx
 . exact Ik _ hx
def G6 (acc:List Str) (s:Str):s∈step acc s:=by
 unfold step;split
 . assumption
 . exact Hz _ 0x6
def tN:∀(ss acc:List Str),∀x∈acc,x∈ss.foldl step acc
 | [],acc,x,hx=>hx
 | s::ss,acc,x,hx=>tN ss _ x (Fy acc s x hx)
def vw:∀(ss acc:List Str),∀x∈ss,x∈ss.foldl step acc
 | s::ss,acc,x,hx=>by
   rcases Hh.mp hx with e|e
   . subst e;exact tN ss _ _ (G6 acc _)
   . exact vw ss _ x e
def sO:∀(B:List Str) (acc C:List Str),(B.foldl step C).foldl step acc=B.foldl step (C.foldl step acc)
 | [],acc,C=>rfl
 | s::B,acc,C=>by
   rw[Jf,sO B acc (step C s),Jf];congr 1;unfold step;by_cases h:s∈C
   . rw[He h];have h2:s∈C.foldl step acc:=vw C acc s h;have h2':s∈List.foldl (λacc s=>if s∈acc then acc else acc++[s]) acc C:=h2;rw[He h2']
   . rw[HX h,IX];rfl
def HH (A B C:List Str):onceL (A++onceL B++C)=onceL (A++B++C):=by unfold onceL;rw[IX,IX,IX,IX];have e:=sO B (A.foldl step []) [];rw[e];rfl
def Bw (acc:List Str) (s:Str):(step acc s).length<=acc.length+1:=by
 unfold step;split
 . lia
 . simp
def DX (ss:List Str):(onceL ss).length<=ss.length:=by
 have key:∀(ss acc:List Str),(ss.foldl step acc).length<=acc.length+ss.length:=by
   intro ss
   induction ss with
   | nil=>intro acc; simp
   | cons s ss ih =>
     intro acc;have h1:=ih (step acc s);have h2:=Bw acc s;rw[Jf];simp only[II]
     lia
 have:=key ss [];unfold onceL;simpa using this
abbrev cM (ss:List Str):List (aF×V):=ss.map λs=>(Sum.inr s,V.bl true)
def D6 (acc:List Str) (s:Str):putK (cM acc) (Sum.inr s) (.bl true)=cM (step acc s):=by
 unfold putK step;have e:((cM acc).any λkv=>decide (kv.1=(Sum.inr s:aF)))=decide (s∈acc):=by
   unfold cM;rw[List.any_map];rw[JD,Kl];simp only[Function.comp,JX];constructor
   . rintro ⟨x,hx,h⟩;have:x=s:=Sum.inr.inj h;rw[<- this];exact hx
   . intro h;show#[s,h,rfl]
 rw[e];by_cases h:s∈acc
 . rw[Hf h,He rfl,He h];unfold cM;rw[Iq];apply KQ;intro x _;show(if(Sum.inr x:aF)=Sum.inr s then((Sum.inr x:aF),V.bl true) else(Sum.inr x,V.bl true))=_;split <;> rfl
 . rw[IU h,HX #[],HX h];unfold cM;rw[Hq];rfl
def vP:∀(ss acc:List Str),(cM ss).foldl 0x7 (cM acc)=cM (ss.foldl step acc)
 | [],acc=>rfl
 | s::ss,acc=>by show(cM ss).foldl _ (putK (cM acc) (Sum.inr s) (.bl true))=_;rw[D6];exact vP ss (step acc s)
def Dh (ss:List Str):(cM ss).foldl 0x7 []=cM (onceL ss):=vP ss []
def Cg (ss:List Str):((cM ss).map λkv=>kV kv.1)=ss.map V.str:=by unfold cM;rw[Iq];rfl
def A3 {K:L7} {H:Hp} {a q:L6} {xs l l':List V} (h:aG K H a xs) (hq:H q=⇑(.lst l)):aG K (upd H q (.lst l')) a xs:=by
 rcases h with(h|⟨o,h⟩)|h
 . exact .inl (.inl (by rw[aM (i5 h hq (by intro z; cases z))]; exact h))
 . exact .inl (.inr #[o,by rw[aM (i5 h hq (by intro z; cases z))]; exact h])
 . exact .inr h
abbrev Nm (s:Str):Prop:=s.length<=1000/\PyData.strOk s=true
end K12
namespace K12
open PySem L2 PySem.W PyProof.Rows
inductive RowS (K:W.Frag) (H:Hp):List V->Option Str->List V->Prop
 | copy (x:Str) (a:V):RowS K H [.str "copy",.str x,a] ⇑x [a]
 | op (x s:Str) (a b:V):RowS K H [.str "op",.str x,.str s,a,b] ⇑x [a,b]
 | new (x:Str):RowS K H [.str "new",.str x] ⇑x []
 | get (x:Str) (a:V) (f:Str):RowS K H [.str "get",.str x,a,.str f] ⇑x [a]
 | put (a:V) (f:Str) (b:V):RowS K H [.str "put",a,.str f,b] none [a,b]
 | call (x f:Str) (p:Addr) (as:List V):aG K H p as->RowS K H [.str "call",.str x,.str f,↥p] ⇑x as
 | out (a:V):RowS K H [.str "out",a] none [a]
 | back (a:V):RowS K H [.str "back",a] none [a]
 | ifs (a:V):RowS K H [.str "if",a] none [a]
 | whl (a:V):RowS K H [.str "while",a] none [a]
 | els:RowS K H [.str "else"] none []
 | fin:RowS K H [.str "end"] none []
def RowS.mono {K:L7} {H H':Hp} {xs:List V} {g:Hl Str} {as:List V} (h:RowS K H xs g as) (e:aB H H'):RowS K H' xs g as:=by
 cases h with
 | call x f p as hp=>exact .call x f p as (e<*hp)
 | copy x a=>exact .copy x a
 | op x s a b=>exact .op x s a b
 | new x=>exact .new x
 | get x a f=>exact .get x a f
 | put a f b=>exact .put a f b
 | out a=>exact .out a
 | back a=>exact .back a
 | ifs a=>exact .ifs a
 | whl a=>exact .whl a
 | els=>exact .els
 | fin=>exact .fin
abbrev tabl:List (Str×List V):=[("copy",[.int 2]),("op",[.int 3,.int 4]),("new",[]),("get",[.int 2]),("put",[.int 1,.int 3]),("out",[.int 1]),("back",[.int 1]),("if",[.int 1]),("while",[.int 1]),("else",[]),("end",[])]
abbrev giving:List Str:=["copy","op","new","get","call"]
def zf {K:L7} {H:Hp} {xs:List V} {g:Hl Str} {as:List V} (h:RowS K H xs g as):∃kd:Str,am xs 0=⇑(.str kd) /\
   ((kd="call"/\∃p,am xs 3=⇑↥p/\aG K H p as)\/(kd≠"call"/\∃pl:List Int,KTD.datumAt kd tabl=⇑(pl.map V.int)/\pl.length=as.length/\∀(i:Nat) (a:V),as[i]?=⇑a->∃p,pl[i]?=⇑p/\am xs p=⇑a)):=by
 cases h with
 | call x f p as hp=>show#["call",rfl,.inl #[rfl,p,rfl,hp]]
 | copy x a=>show#["copy",rfl,.inr #[by decide +kernel,[2],by decide +kernel,rfl,λi a' e=>by match i,e with|0,e=>exact⟨2,rfl,e⟩]]
 | op x s a b=>show#["op",rfl,.inr #[by decide +kernel,[3,4],by decide +kernel,rfl,λi a' e=>by match i,e with|0,e=>exact⟨3,rfl,e⟩|1,e=>exact⟨4,rfl,e⟩]]
 | new x=>show#["new",rfl,.inr #[by decide +kernel,[],by decide +kernel,rfl,λi a' e=>by simp at e]]
 | get x a f=>show#["get",rfl,.inr #[by decide +kernel,[2],by decide +kernel,rfl,λi a' e=>by match i,e with|0,e=>exact⟨2,rfl,e⟩]]
 | put a f b=>show#["put",rfl,.inr #[by decide +kernel,[1,3],by decide +kernel,rfl,λi a' e=>by match i,e with|0,e=>exact⟨1,rfl,e⟩|1,e=>exact⟨3,rfl,e⟩]]
 | out a=>show#["out",rfl,.inr #[by decide +kernel,[1],by decide +kernel,rfl,λi a' e=>by match i,e with|0,e=>exact⟨1,rfl,e⟩]]
 | back a=>show#["back",rfl,.inr #[by decide +kernel,[1],by decide +kernel,rfl,λi a' e=>by match i,e with|0,e=>exact⟨1,rfl,e⟩]]
 | ifs a=>show#["if",rfl,.inr #[by decide +kernel,[1],by decide +kernel,rfl,λi a' e=>by match i,e with|0,e=>exact⟨1,rfl,e⟩]]
 | whl a=>show#["while",rfl,.inr #[by decide +kernel,[1],by decide +kernel,rfl,λi a' e=>by match i,e with|0,e=>exact⟨1,rfl,e⟩]]
 | els=>show#["else",rfl,.inr #[by decide +kernel,[],by decide +kernel,rfl,λi a' e=>by simp at e]]
 | fin=>show#["end",rfl,.inr #[by decide +kernel,[],by decide +kernel,rfl,λi a' e=>by simp at e]]
abbrev xv:Hl Str->V
 | some x=>.str x
 | none=>.non
def BR {K:L7} {H:Hp} {xs:List V} {g:Hl Str} {as:List V} (h:RowS K H xs g as):∃kd:Str,am xs 0=⇑(.str kd) /\
   ((∃x,g=⇑x/\eP (.str kd) (giving.map V.str)=true/\am xs 1=⇑(.str x))\/(g=none/\eP (.str kd) (giving.map V.str)=false)):=by
 cases h with
 | call x f p as hp=>show#["call",rfl,.inl #[x,rfl,by decide +kernel,rfl]]
 | copy x a=>show#["copy",rfl,.inl #[x,rfl,by decide +kernel,rfl]]
 | op x s a b=>show#["op",rfl,.inl #[x,rfl,by decide +kernel,rfl]]
 | new x=>show#["new",rfl,.inl #[x,rfl,by decide +kernel,rfl]]
 | get x a f=>show#["get",rfl,.inl #[x,rfl,by decide +kernel,rfl]]
 | put a f b=>show#["put",rfl,.inr #[rfl,by decide +kernel]]
 | out a=>show#["out",rfl,.inr #[rfl,by decide +kernel]]
 | back a=>show#["back",rfl,.inr #[rfl,by decide +kernel]]
 | ifs a=>show#["if",rfl,.inr #[rfl,by decide +kernel]]
 | whl a=>show#["while",rfl,.inr #[rfl,by decide +kernel]]
 | els=>show#["else",rfl,.inr #[rfl,by decide +kernel]]
 | fin=>show#["end",rfl,.inr #[rfl,by decide +kernel]]
def CS:(giving.map V.str).all eC=true:=by decide +kernel
abbrev Atom (v:V):Prop:=(∃s,v=.str s/\Nm s)\/∃i,v=.int i
structure RowD where
 r:Addr
 e:Addr
 a:Addr
 gx:Option Str
 as:List V
structure RowAt (K:W.Frag) (H:Hp) (d:RowD):Prop where
 row:∃xs,aG K H d.r xs/\RowS K H xs d.gx d.as
 ats:∀v∈d.as,Atom v
 len:d.as.length<=10
 nm:∀x,d.gx=⇑x->Nm x
def RowAt.mono {K:L7} {H H':Hp} {d:RowD} (h:RowAt K H d) (e:aB H H'):RowAt K H' d :=
 #[by let#[xs,h1,h2]:=h.row; show#[xs,e<*h1,h2*>e],h.ats,h.len,h.nm]
structure FunAt (K:W.Frag) (H:Hp) (f:Addr) (ps:List Str) (ds:List RowD):Prop where
 fn:∃n b p r,aG K H f [n,b,↥p,↥r]/\aG K H p (ps.map V.str)/\aG K H r (ds.map λd=>V.ref d.r)
 rows:∀d∈ds,RowAt K H d
 pn:∀s∈ps,Nm s
 pl:ps.length<=100
 dl:ds.length<=100
def FunAt.mono {K:L7} {H H':Hp} {f:L6} {ps:List Str} {ds:List RowD} (h:FunAt K H f ps ds) (e:aB H H'):FunAt K H' f ps ds :=
 #[by let#[n,b,p,r,h1,h2,h3]:=h.fn; show#[n,b,p,r,e<*h1,e<*h2,e<*h3],λd hd=>(h.rows d hd)*>e,h.pn,h.pl,h.dl]
abbrev rowStrs (d:RowD):List Str:=d.gx.toList++dN d.as
abbrev allOf (ps:List Str) (ds:List RowD):List Str:=ps++ds.flatMap rowStrs
def qj (as:List V):(dN as).length<=as.length:=List.length_filterMap_le _ _
end K12
namespace K12
open PySem L2
section
variable {P:Program} {w:World} {K:L7} {mg:Str->Hl K'} {base:Heap}
abbrev Gives (H:Hp) (Q:VK) (vs:List V):Prop:=∀l H',aB H H'->H l=none->H' l=⇑(.lst vs)->Q ↥l H'
abbrev sp_gives (K:L7):Sp:=λvs H Q _=>∃(r:L6) (xs:List V) (g:Hl Str) (as:List V),vs=[↥r]/\aG K H r xs/\RowS K H xs g as/\Q (xv g) H
abbrev sp_atoms_of (K:L7):Sp:=λvs H Q _=>∃(r:L6) (xs:List V) (g:Hl Str) (as:List V),vs=[↥r]/\aG K H r xs/\RowS K H xs g as/\as.length<=10/\Gives H Q as
abbrev sp_each_once (K:L7):Sp:=λvs H Q _=>∃(p:L6) (ss:List Str),vs=[↥p]/\aE K H p (ss.map V.str)/\ss.length<=5000/\Gives H Q ((onceL ss).map V.str)
abbrev sp_reads (K:L7):Sp:=λvs H Q _=>∃(r:L6) (xs:List V) (g:Hl Str) (as:List V),vs=[↥r]/\aG K H r xs/\RowS K H xs g as/\as.length<=10/\(∀v∈as,Atom v)/\Gives H Q ((onceL (dN as)).map V.str)
abbrev sp_names_of (K:L7):Sp:=λvs H Q _=>∃(f:L6) (ps:List Str) (ds:List RowD),vs=[↥f]/\FunAt K H f ps ds/\Gives H Q ((onceL (allOf ps ds)).map V.str)
abbrev CT (K:L7):List V->Hp->VK->Prop:=λxs H Q=>∃x c t b,xs=[x,.ty c]/\TyOf K H x t/\W.kitOne K t (.type c)=⇑b/\Q (.bl b) H
def gG {n:Nat} (h:n<1000000):n<=sizeLine:=by
 have:(1000000:Nat)<sizeLine:=by decide
 lia
def lt_line' {n:Nat} (h:n<1000000):n<sizeLine:=by
 have:(1000000:Nat)<sizeLine:=by decide
 lia
def inV_map (s:Str) (ss:List Str):eP (.str s) (ss.map V.str)=decide (s∈ss):=by
 unfold eP;rw[List.any_map,JD,Kl,JX];constructor
 . rintro ⟨x,hx,h⟩;have h:(x==s)=true:=h;have:x=s:=↑h
   rw[<- this];exact hx
 . intro h;show#[s,h,by show(s==s)=true; simp]
def vg {fs P G B:List Str} (h:onceL fs=onceL P):onceL (fs++G++onceL B)=onceL (P++(G++B)):=by have e:=HH (fs++G) B [];rw[IQ,IQ] at e;rw[e,Ib];unfold onceL at h ⊢;rw[IX,h,<- IX]
abbrev lets:Str:="abcdefghijklmnopqrstuvwxyz"
def lets_ok:PyData.strOk lets=true:=by decide +kernel
end
end K12
namespace K13
open PySem L2
abbrev isO (s:Str):Bool:=decide (s="if") || decide (s="while")
abbrev isE (s:Str):Bool:=decide (s="else") || decide (s="end")
abbrev push (st:List Nat) (i:Nat) (s:Str):List Nat:=if isO s=true then i::st else if s="end" then st.tail else st
abbrev kd (ks:List Str) (i:Nat):Str:=ks.getD i ""
abbrev stk (ks:List Str):Nat->List Nat
 | 0=>[]
 | i+1=>push (stk ks i) i (kd ks i)
def dS (ks:List Str) (i:Nat):stk ks (i+1)=push (stk ks i) i (kd ks i):=rfl
def gi (ks:List Str):∀i,∀x∈stk ks i,x<i/\isO (kd ks x)=true
 | 0,x,h=>by cases h
 | i+1,x,h=>by
   rw[dS] at h;unfold push at h;split at h
   . rcases Hh.mp h with e|e
     . subst e;show#[Iw _,by assumption]
     . have:=gi ks i x e;show#[∅,this.2]
   . split at h
     . have:=gi ks i x (List.mem_of_mem_tail h);show#[∅,this.2]
     . have:=gi ks i x h;show#[∅,this.2]
variable {s:Str}
def EE (h:isO s=true):¬ s="end":=by intro e;subst e;revert h;decide +kernel
def GP (h:isO s=true):¬ s="else":=by intro e;subst e;revert h;decide +kernel
def uG:isO ("end":Str)=false:=by decide +kernel
structure Wf (ks:List Str):Prop where
 open_:∀i,i<ks.length->isE (kd ks i)=true->stk ks i≠[]
 els:∀i b r,i<ks.length->kd ks i="else"->stk ks i=b::r->kd ks b="if"
 shut:stk ks ks.length=[]
 last:∀i,i+1=ks.length->kd ks i="back"
 pos:0<ks.length
abbrev At (ks:List Str) (b j d:Nat):Prop:=∃pre,stk ks j=pre++b::stk ks b/\pre.length+1=d
variable {ks:List Str}
def vA {b:Nat} (h:isO (kd ks b)=true):At ks b (b+1) 1:=#[[],by rw[dS]; unfold push; rw[He h]; rfl,rfl]
variable {j d:Nat}
def Gr {b:Nat}(h:At ks b j d) (ho:isO (kd ks j)=true):At ks b (j+1) (d+1):=by let#[pre,e,l]:=h;show#[j::pre,by rw[dS]; unfold push; rw[He ho,e]; rfl,by simp [l]]
def DW {b:Nat}(h:At ks b j (d+1)) (hd:0<d) (he:kd ks j="end"):At ks b (j+1) d:=by
 let#[pre,e,l]:=h;cases pre with
 | nil=>simp at l; lia
 | cons p pre =>
   show#[pre,?_,by simpa using l];rw[dS];unfold push;rw[he,HX (by rw[uG]; decide),He rfl,e];rfl
def DB {b:Nat}(h:At ks b j d) (ho:¬ isO (kd ks j)=true) (he:¬ kd ks j="end"):At ks b (j+1) d:=by let#[pre,e,l]:=h;show#[pre,by rw[dS]; unfold push; rw[HX ho,HX he,e],l]
def Gm {b:Nat}(h:At ks b j 1):stk ks j=b::stk ks b:=by
 let#[pre,e,l]:=h;cases pre with
 | nil=>exact e
 | cons p pre=>simp at l
def t8 (w:Wf ks) {b:Nat}(h:At ks b j d) (hj:j<=ks.length):j<ks.length:=by
 rcases Ig j ks.length with q|q
 . exact q
 . have e:j=ks.length:=by lia
   subst e;let#[pre,e,_]:=h;rw[w.shut] at e;simp at e
def BK {b:Nat}(h:At ks b j d):0<d:=by
 let#[pre,_,l]:=h
 lia
abbrev bn (ks:List Str) (b e:Nat):Prop:=b<e/\e<ks.length/\kd ks e="end"/\stk ks e=b::stk ks b/\∀j,b<j->j<=e->∃d,At ks b j d
def u8 {ks:List Str} (w:Wf ks) {b:Nat}:∀(m j d:Nat),m=ks.length - j->j<=ks.length->b<j->(∀i,b<i->i<=j->∃d,At ks b i d)->At ks b j d->∃e,j<=e/\bn ks b e
 | 0,j,d,hm,hj,hb,hall,h=>absurd (t8 w h hj) ∅
 | m+1,j,d,hm,hj,hb,hall,h=>by
   have hlt:=t8 w h hj;have go:∀d',At ks b (j+1) d'->∃e,j<=e/\bn ks b e:=λd' h'=>by
     let#[e,he,q]:=u8 w m (j+1) d' ∅ ∅ ∅ (λi h1 h2=>by
       rcases Ig j i with z|z
       . have:i=j+1:=by lia
         subst this;show#[d',h']
       . exact hall i h1 z) h'
     show#[e,∅,q]
   by_cases ho:isO (kd ks j)=true
   . exact go _ (Gr h ho)
   by_cases he:kd ks j="end"
   . have hp:=BK h;by_cases hd:d=1
     . subst hd;show#[j,HY _,hb,hlt,he,Gm h,hall]
     . obtain⟨d',rfl⟩:∃d',d=d'+1:=#[d - 1,∅]
       exact go _ (DW h ∅ he)
   . exact go _ (DB h ho he)
def ub (w:Wf ks) {b:Nat} (hb:b<ks.length) (ho:isO (kd ks b)=true):∃e,bn ks b e:=by
 let#[e,_,h]:=u8 w (ks.length - (b+1)) (b+1) 1 rfl ∅ ∅ (λi h1 h2=>by
   have:i=b+1:=by lia
   subst this;show#[(1),vA ho]) (vA ho)
 show#[e,h]
abbrev cY (ks:List Str) (b k:Nat):Prop:=isE (kd ks k)=true/\(stk ks k).head?=⇑b
def oy {b k:Nat} (h:cY ks b k):b<k/\isO (kd ks b)=true:=gi ks k b (List.mem_of_mem_head? h.2)
def pT {b e:Nat} (h:bn ks b e):cY ks b e:=by
 show#[?_,?_]
 . rw[h.2.2.1]; decide +kernel
 . rw[h.2.2.2.1]; rfl
def vt {ks:List Str} {b e:Nat} (h:bn ks b e):∀j,e<j->b ∉ stk ks j
 | 0,hj,_=>by lia
 | j+1,hj,hm=>by
   rcases Ig e j with q|q
   . have ih:=vt h j q;rw[dS] at hm;unfold push at hm;split at hm
     . rcases Hh.mp hm with z|z
       . have:=h.1
         lia
       . exact ih z
     . split at hm
       . exact ih (List.mem_of_mem_tail hm)
       . exact ih hm
   . have e1:j=e:=by lia
     subst e1;rw[dS] at hm;unfold push at hm;rw[h.2.2.1,HX (by rw[uG]; decide),He rfl,h.2.2.2.1] at hm;have:=(gi ks b b hm).1
     lia
def sM {b e k:Nat} (h:bn ks b e) (hk:cY ks b k):k<=e:=by
 rcases Ig e k with q|q
 . exact absurd (List.mem_of_mem_head? hk.2) (vt h k q)
 . exact q
abbrev one (ks:List Str) (i:Nat):List (Nat×Nat):=if isE (kd ks i)=true then(match stk ks i with | []=>[] | b::_=>[(i,b)]) else []
abbrev bL (ks:List Str):Nat->List (Nat×Nat)
 | 0=>[]
 | i+1=>bL ks i++one ks i
abbrev eI (L:List (Nat×Nat)) (b:Nat):Hl Nat:=L.foldl (λacc p=>if p.2=b then ⇑p.1 else acc) none
abbrev cO (L:List (Nat×Nat)) (b:Nat):Hl Nat:=L.foldl (λacc p=>if acc.isSome=true then acc else if p.2=b then ⇑p.1 else none) none
def i6 (ks:List Str) (i:Nat):(∃b,one ks i=[(i,b)]/\cY ks b i)\/(one ks i=[]/\∀b,¬ cY ks b i):=by
 unfold one cY;by_cases h:isE (kd ks i)=true
 . rw[He h];cases q:stk ks i with
   | nil=>exact .inr #[rfl,λb z=>by simp at z]
   | cons b r=>exact .inl #[b,rfl,h,rfl]
 . rw[HX h];exact .inr #[rfl,λb z=>h z.1]
def uH (L:List (Nat×Nat)) (p:Nat×Nat) (b:Nat):eI (L++[p]) b=if p.2=b then ⇑p.1 else eI L b:=by unfold eI; rw[IX]; rfl
def wW (L:List (Nat×Nat)) (p:Nat×Nat) (b:Nat):cO (L++[p]) b=if(cO L b).isSome=true then cO L b else if p.2=b then ⇑p.1 else none:=by unfold cO; rw[IX]; rfl
def nX {b b' k:Nat} (h:cY ks b k) (h':cY ks b' k):b=b':=by have:=h.2.symm\h'.2;simpa using this
def tT (ks:List Str) (b:Nat):∀i,(∀m,eI (bL ks i) b=⇑m->m<i/\cY ks b m/\∀k,m<k->k<i->¬ cY ks b k)/\(eI (bL ks i) b=none->∀k,k<i->¬ cY ks b k)
 | 0=>#[λm h=>(by cases h),λ_ k hk=>∅]
 | i+1=>by
   let#[ih1,ih2]:=tT ks b i;show(∀m,eI (bL ks i++one ks i) b=⇑m->_)/\(eI (bL ks i++one ks i) b=none->_)
   rcases i6 ks i with⟨b',e,hh⟩|⟨e,hn⟩
   . rw[e,uH];by_cases hb:b'=b
     . rw[He hb];subst hb;show#[λm h=>by cases h; show#[Iw _,hh,λk h1 h2=>by lia],λh=>by cases h]
     . rw[HX hb];show#[λm h=>?_,λh k hk=>?_]
       . let#[h1,h2,h3]:=ih1 m h;show#[∅,h2,λk q1 q2 hk=>?_];rcases Ig k i with z|z
         . exact h3 k q1 z hk
         . have:k=i:=by lia
           subst this;exact hb (nX hh hk)
       . intro hk';rcases Ig k i with z|z
         . exact ih2 h k z hk'
         . have:k=i:=by lia
           subst this;exact hb (nX hh hk')
   . rw[e,IQ];show#[λm h=>?_,λh k hk hk'=>?_]
     . let#[h1,h2,h3]:=ih1 m h;show#[∅,h2,λk q1 q2 hk=>?_];rcases Ig k i with z|z
       . exact h3 k q1 z hk
       . have:k=i:=by lia
         subst this;exact hn b hk
     . rcases Ig k i with z|z
       . exact ih2 h k z hk'
       . have:k=i:=by lia
         subst this;exact hn b hk'
def nH (ks:List Str) (b:Nat):∀i,(∀m,cO (bL ks i) b=⇑m->m<i/\cY ks b m/\∀k,k<m->¬ cY ks b k)/\(cO (bL ks i) b=none->∀k,k<i->¬ cY ks b k)
 | 0=>#[λm h=>(by cases h),λ_ k hk=>∅]
 | i+1=>by
   let#[ih1,ih2]:=nH ks b i;show(∀m,cO (bL ks i++one ks i) b=⇑m->_)/\(cO (bL ks i++one ks i) b=none->_)
   rcases i6 ks i with⟨b',e,hh⟩|⟨e,hn⟩
   . rw[e,wW];cases hf:cO (bL ks i) b with
     | some m0 =>
       rw[He (show(⇑m0).isSome=true from rfl)];let#[h1,h2,h3]:=ih1 m0 hf;show#[λm h=>by cases h; show#[∅,h2,h3],λh=>by cases h]
     | none =>
       rw[HX (show ¬ (none:Hl Nat).isSome=true by decide)];have hno:=ih2 hf;by_cases hb:b'=b
       . rw[He hb];subst hb;show#[λm h=>by cases h; show#[Iw _,hh,λk hk=>hno k hk],λh=>by cases h]
       . rw[HX hb];show#[λm h=>(by cases h),λ_ k hk hk'=>?_];rcases Ig k i with z|z
         . exact hno k z hk'
         . have:k=i:=by lia
           subst this;exact hb (nX hh hk')
   . rw[e,IQ];show#[λm h=>?_,λh k hk hk'=>?_]
     . let#[h1,h2,h3]:=ih1 m h;show#[∅,h2,h3]
     . rcases Ig k i with z|z
       . exact ih2 h k z hk'
       . have:k=i:=by lia
         subst this;exact hn b hk'
def Bo {b e:Nat} (h:bn ks b e):eI (bL ks ks.length) b=⇑e:=by
 let#[h1,h2]:=tT ks b ks.length;cases q:eI (bL ks ks.length) b with
 | none=>exact absurd (pT h) (h2 q e h.2.1)
 | some m =>
   let#[q1,q2,q3]:=h1 m q;have:=sM h q2;rcases Ig m e with z|z
   . exact absurd (pT h) (q3 e z h.2.1)
   . have:m=e:=by lia
     rw[this]
abbrev iH (ks:List Str) (b f:Nat):Prop:=f<ks.length/\cY ks b f/\∀k,k<f->¬ cY ks b k
def Br {b f f':Nat} (h:iH ks b f) (h':iH ks b f'):f=f':=by
 rcases Nat.lt_trichotomy f f' with z|z|z
 . exact absurd h.2.1 (h'.2.2 f z)
 . exact z
 . exact absurd h'.2.1 (h.2.2 f' z)
def Cp {b f:Nat} (h:iH ks b f):cO (bL ks ks.length) b=⇑f:=by
 let#[h1,h2]:=nH ks b ks.length;cases q:cO (bL ks ks.length) b with
 | none=>exact absurd h.2.1 (h2 q f h.1)
 | some m =>
   let#[q1,q2,q3]:=h1 m q;rw[Br (#[q1,q2,q3]:iH ks b m) h]
def GU {b:Nat} (h:¬ isO (kd ks b)=true):cO (bL ks ks.length) b=none:=by
 let#[h1,h2]:=nH ks b ks.length;cases q:cO (bL ks ks.length) b with
 | none=>rfl
 | some m=>exact absurd (oy (h1 m q).2.1).2 h
inductive Beh (ks:List Str):Nat->Nat->Prop
 | els {k b e r:Nat}:kd ks (k+1)="else"->(stk ks (k+1)).head?=⇑b->bn ks b e->Beh ks e r->Beh ks k r
 | whl {k b:Nat}:kd ks (k+1)="end"->(stk ks (k+1)).head?=⇑b->kd ks b="while"->Beh ks k b
 | fin {k b r:Nat}:kd ks (k+1)="end"->(stk ks (k+1)).head?=⇑b->¬ kd ks b="while"->Beh ks (k+1) r->Beh ks k r
 | oth {k:Nat}:¬ kd ks (k+1)="else"->¬ kd ks (k+1)="end"->Beh ks k (k+1)
def Eb:¬ (("else":Str)="end"):=by decide +kernel
def sS:¬ (("back":Str)="else")/\¬ (("back":Str)="end"):=by decide +kernel
def Fx (h:isO s=true):¬ isE s=true:=by unfold isE;rw[IU (GP h),IU (EE h)];decide
def EJ (h1:¬ s="else") (h2:¬ s="end"):¬ isE s=true:=by unfold isE;rw[IU h1,IU h2];decide
inductive Due (ks:List Str):Nat->Option (List Nat)->Prop
 | no {k:Nat}:isE (kd ks k)=true->Due ks k none
 | back {k:Nat}:kd ks k="back"->Due ks k ⇑[]
 | two {k f r1 r2:Nat}:isO (kd ks k)=true->iH ks k f->Beh ks k r1->Beh ks f r2->Due ks k ⇑[r1,r2]
 | one {k r:Nat}:¬ isE (kd ks k)=true->¬ kd ks k="back"->¬ isO (kd ks k)=true->Beh ks k r->Due ks k ⇑[r]
def vV:¬ isE ("back":Str)=true:=by decide +kernel
def Bz:¬ isO ("back":Str)=true:=by decide +kernel
def AD {b e:Nat} (h:bn ks b e):∃f,iH ks b f:=by
 let#[h1,h2]:=nH ks b ks.length;cases q:cO (bL ks ks.length) b with
 | none=>exact absurd (pT h) (h2 q e h.2.1)
 | some m =>
   let#[q1,q2,q3]:=h1 m q;show#[m,q1,q2,q3]
def rp (w:Wf ks) {k:Nat} (hk:k<ks.length) (h:¬ kd ks k="back"):k+1<ks.length:=by
 rcases Ig (k+1) ks.length with z|z
 . exact z
 . exact absurd (w.last k ∅) h
def DI (w:Wf ks) {b f:Nat} (h:iH ks b f):f+1<ks.length:=by refine rp w h.1 λz=>?_;have:=h.2.1.1;rw[z] at this;exact vV this
variable {i:Nat}
def j8 {ys:List Str}(h:i<ks.length):kd (ks++ys) i=kd ks i:=by unfold kd;rw[Ii,Ii,IV h]
def BY (ks ys:List Str) (i:Nat):kd (ks++ys) (ks.length+i)=kd ys i:=by unfold kd;rw[Ii,Ii,IS (Jq _ _),Nat.add_sub_cancel_left]
def nK (ks:List Str) (x:Str):kd (ks++[x]) ks.length=x:=by have:=BY ks [x] 0;rw[Nat.add_zero] at this;rw[this];rfl
def li (ks ys:List Str):∀i,i<=ks.length->stk (ks++ys) i=stk ks i
 | 0,_=>rfl
 | i+1,h=>by rw[dS,dS,li ks ys i ∅,j8 ∅]
structure Good (ks os:List Str):Prop where
 open_:∀i,i<ks.length->isE (kd ks i)=true->stk ks i≠[]
 els:∀i b r,i<ks.length->kd ks i="else"->stk ks i=b::r->kd ks b="if"
 len:(stk ks ks.length).length=os.length
 mt:∀(i b:Nat),(stk ks ks.length)[i]?=⇑b->os[i]?=some "if"->kd ks b="if"
def good_nil:Good [] []:=#[λi h=>absurd h (Ir i),λi _ _ h=>absurd h (Ir i),rfl,λi b h=>by cases h]
def uO (ks:List Str) (x:Str):stk (ks++[x]) (ks++[x]).length=push (stk ks ks.length) ks.length x:=by rw[HZ];show stk (ks++[x]) (ks.length+1)=_;rw[dS,li _ _ _ (HY _),nK]
def Good.snoc {os os':List Str}{x:Str} (g:Good ks os) (ho:isE x=true->os≠[]) (he:x="else"->∃r,os=("if":Str)::r)
   (hl:(push (stk ks ks.length) ks.length x).length=os'.length) (hm:∀(i b:Nat),(push (stk ks ks.length) ks.length x)[i]?=⇑b->os'[i]?=some "if"->kd (ks++[x]) b="if"):Good (ks++[x]) os':=by
 have hn:(ks++[x]).length=ks.length+1:=by rw[HZ]; rfl
 show#[λi h hE=>?_,λi b r h hE hs=>?_,by rw[uO]; exact hl,by rw[uO]; exact hm]
 . rw[li _ _ _ ∅];rcases Ig i ks.length with z|z
   . rw[j8 z] at hE;exact g.open_ i z hE
   . have:i=ks.length:=by lia
     subst this;rw[nK] at hE;intro e;have:=g.len;rw[e] at this;exact ho hE (JJ.mp this.symm)
 . rw[li _ _ _ ∅] at hs;rcases Ig i ks.length with z|z
   . rw[j8 z] at hE;have hb:=(gi ks i b (by rw[hs]; exact Hj)).1;rw[j8 ∅];exact g.els i b r z hE hs
   . have:i=ks.length:=by lia
     subst this;rw[nK] at hE;let#[r',e]:=he hE;have hb:=(gi ks ks.length b (by rw[hs]; exact Hj)).1;rw[j8 hb];exact g.mt 0 b (by rw[hs]; rfl) (by rw[e]; rfl)
def Good.keep {os:List Str}(g:Good ks os) (x:Str) {b:Nat}(h:(stk ks ks.length)[i]?=⇑b) (h':os[i]?=some "if"):kd (ks++[x]) b="if":=by have hb:=(gi ks ks.length b (IA h)).1;rw[j8 hb];exact g.mt i b h h'
def Good.plain {os:List Str}{x:Str} (g:Good ks os) (h1:¬ isO x=true) (h2:¬ isE x=true) (h3:¬ x="end"):Good (ks++[x]) os:=by
 have e:push (stk ks ks.length) ks.length x=stk ks ks.length:=by unfold push; rw[HX h1,HX h3]
 refine g.snoc (λz=>absurd z h2) (λz=>absurd (by rw[z]; decide +kernel) h2) (by rw[e,g.len]) ?_;rw[e];intro i b h h';exact g.keep x h h'
def Good.back (g:Good ks []):Wf (ks++[("back":Str)]):=by
 have hs:stk ks ks.length=[]:=JJ.mp g.len;have g':=g.plain Bz vV 0x4;show#[g'.open_,g'.els,JJ.mp g'.len,λi h=>?_,by rw[HZ]; exact Nat.succ_pos _];have:i=ks.length:=by rw[HZ] at h; simpa using h
 rw[this,nK]
structure RowsAt (K:W.Frag) (H:Hp) (a:Addr) (ks:List Str):Prop where
 ex:∃rs:List Addr,aG K H a (rs.map V.ref)/\rs.length=ks.length/\∀i r,rs[i]?=⇑r->∃rest,aG K H r (V.str (kd ks i)::rest)
variable {H:Hp}
def RowsAt.mono {K:L7} {H':Hp}{a:L6} (h:RowsAt K H a ks) (e:aB H H'):RowsAt K H' a ks :=
 #[by let#[rs,h1,h2,h3]:=h.ex; show#[rs,e<*h1,h2,λi r q=>by let#[rest,z]:=h3 i r q; show#[rest,e<*z]]]
def bR {x:V} {r:List V}:am (x::r) 0=⇑x:=by unfold am cX;rw[He #[],He 0x6];rfl
def ixk {K:L7} {Q:VK} {a:L6} {i:Int} (h:RowsAt K H a ks) (h0:0<=i) (h1:i<ks.length) (q:Q (.str (kd ks i.toNat)) H):nq K ↥a (.int i) H λx H1=>nq K x (.int 0) H1 Q:=by
 let#[rs,e1,e2,e3]:=h.ex;have hi:i.toNat<rs.length:=by lia
 let#[rest,hr]:=e3 i.toNat rs[i.toNat] (by simp [hi]);show#[a,_,i,.ref rs[i.toNat],7,e1,?_,rs[i.toNat],_,(0),11,hr,bR,q];have e:am (rs.map V.ref) i=⇑(V.ref rs[i.toNat]):=by unfold am cX;rw[He h0,He (by rw[HS]; lia),Jc,Hk];simp [hi]
 exact e
abbrev g8 (L:List (Nat×Nat)):List (aF×V):=L.map λp=>(Sum.inl (p.1:Int),V.int (p.2:Int))
abbrev bg (ks:List Str) (i:Nat):List (aF×V):=g8 (bL ks i)
def uf (ks:List Str):∀i,∀p∈bL ks i,p.1<i
 | 0,p,h=>by cases h
 | i+1,p,h=>by
   rcases IH.mp h with h|h
   . have:=uf ks i p h
     lia
   . rcases i6 ks i with⟨b,e,_⟩|⟨e,_⟩
     . rw[e] at h;have:p=(i,b):=↑h
       rw[this];exact Iw _
     . rw[e] at h;cases h
def Bc (ks:List Str) (i:Nat):aq (bg ks i) (Sum.inl (i:Int):aF)=none:=by
 have h:=jM (Sum.inl (i:Int):aF) (bg ks i);cases q:aq (bg ks i) (Sum.inl (i:Int):aF) with
 | none=>rfl
 | some v =>
   rw[q] at h;let#[kv,hm,e]:=Kl.mp h;let#[p,hp,rfl]:=IJ.mp hm;have e:=Ij e;have:(p.1:Int)=(i:Int):=Sum.inl.inj e;have:=uf ks i p hp
   lia
def mX {b:Nat}(h:cY ks b i):putK (bg ks i) (Sum.inl (i:Int):aF) (V.int (b:Int))=bg ks (i+1):=by
 rw[uR _ (Bc ks i)];rcases i6 ks i with⟨b',e,h'⟩|⟨e,h'⟩
 . show g8 (bL ks i)++_=g8 (bL ks i++one ks i);rw[e,nX h h'];unfold g8;rw[Hq];rfl
 . exact absurd h (h' b)
def tE (h:¬ isE (kd ks i)=true):bg ks (i+1)=bg ks i:=by
 rcases i6 ks i with⟨b',e,h'⟩|⟨e,h'⟩
 . exact absurd h'.1 h
 . show g8 (bL ks i++one ks i)=_;rw[e,IQ];rfl
def pF (ks:List Str):∀i,(bL ks i).length<=i
 | 0=>HY _
 | i+1=>by have:=pF ks i;show(bL ks i++one ks i).length<=i+1;rw[HZ];rcases i6 ks i with⟨b',e,h'⟩|⟨e,h'⟩ <;> rw[e] <;> simp <;> lia
def qt (ks:List Str) (i:Nat):(bg ks i).length<=i:=by unfold bg g8; rw[HS]; exact pF ks i
abbrev dj (ks:List Str) (i:Nat):List V:=(stk ks i).reverse.map λ(n:Nat)=>V.int (n:Int)
def HC (ks:List Str):∀i,(dj ks i).length<=i:=by
 intro i;unfold dj;rw[HS,List.length_reverse]
 induction i with
 | zero=>exact HY _
 | succ i ih =>
   rw[dS];unfold push;split
   . simp; lia
   . split
     . simp; lia
     . lia
def inO (s:Str):eP (.str s) [V.str "if",V.str "while"]=isO s:=by show((("if":Str)==s) || ((("while":Str)==s) || false))=isO s;unfold isO;rw[Ky];congr 1 <;> (rw[JD,Kg,JX]; exact eq_comm)
def inE (s:Str):eP (.str s) [V.str "else",V.str "end"]=isE s:=by show((("else":Str)==s) || ((("end":Str)==s) || false))=isE s;unfold isE;rw[Ky];congr 1 <;> (rw[JD,Kg,JX]; exact eq_comm)
def cH:0<=sizeLine:=by decide
def eh:1<=sizeLine:=by decide
def bH:2<=sizeLine:=by decide
def lt_line' {n:Nat} (h:n<1000000):n<sizeLine:=by
 have:(1000000:Nat)<sizeLine:=by decide
 lia
def tR {b:Nat}{r:List Nat} (h:stk ks i=b::r):am (dj ks i) (-1)=⇑(.int (b:Int))/\(dj ks i)[(dj ks i).length - 1]?=⇑(.int (b:Int))/\(dj ks i).dropLast=r.reverse.map λ(n:Nat)=>V.int (n:Int):=by
 have e:dj ks i=(r.reverse.map λ(n:Nat)=>V.int (n:Int))++[V.int (b:Int)]:=by unfold dj;rw[h,List.reverse_cons,Hq];rfl
 rw[e];show#[?_,by simp,by simp];unfold am cX;rw[HX #[],He (by simp; lia),Jc];have:((-1:Int)+(((r.reverse.map λ(n:Nat)=>V.int (n:Int))++[V.int (b:Int)]).length:Int)).toNat=(r.reverse.map λ(n:Nat)=>V.int (n:Int)).length:=by
   rw[HZ];simp
   lia
 rw[this];simp
def wN {K:L7} {a q:L6} {xs:List V} {kvs:List (aF×V)} {o:HO} (h:aG K H a xs) (hq:H q=⇑(.dK kvs)):aG K (upd H q o) a xs:=by
 rcases h with(h|⟨o,h⟩)|h
 . exact .inl (.inl (by rw[aM (i5 h hq (by intro z; cases z))]; exact h))
 . exact .inl (.inr #[o,by rw[aM (i5 h hq (by intro z; cases z))]; exact h])
 . exact .inr h
def RowsAt.frz {K:L7} {H:Hp} {a q:L6} {ks:List Str} {kvs:List (aF×V)} {o:HO} (h:RowsAt K H a ks) (hq:H q=⇑(.dK kvs)):RowsAt K (upd H q o) a ks :=
 #[by let#[rs,h1,h2,h3]:=h.ex; show#[rs,wN h1 hq,h2,λi r z=>by let#[rest,y]:=h3 i r z; show#[rest,wN y hq]]]
abbrev tO (H:Hp) (l:L6) (ks:List Str):Prop:=∃bs,H l=⇑(.lst bs)/\bs.length=ks.length/\∀k,k+1<ks.length->∃r:Nat,Beh ks k r/\bs[k]?=⇑(.int (r:Int))
abbrev uU (n:Nat):List V:=(List.replicate n [V.non]).flatten
def D9 (n:Nat):(uU n).length=n:=by unfold uU; rw[uP]; simp
def uB {b k:Nat} (n:Nat) (hk:k<n) (h:cY ks b k):aq (bg ks n) (Sum.inl (k:Int):aF)=⇑(.int (b:Int)):=by
 induction n with
 | zero=>lia
 | succ n ih =>
   rcases Ig k n with z|z
   . rcases i6 ks n with⟨b',e,h'⟩|⟨e,h'⟩
     . rw[<- mX h',cZ,HX (λz'=>by have:(k:Int)=(n:Int):=Sum.inl.inj z'; lia)];exact ih z
     . have:bg ks (n+1)=bg ks n:=by show g8 (bL ks n++one ks n)=_;rw[e,IQ];rfl
       rw[this];exact ih z
   . have:k=n:=by lia
     subst this;rw[<- mX h,cZ,He rfl]
def rV {n:Nat}{kv:aF×V} (h:(bg ks n)[i]?=⇑kv):∃p:Nat×Nat,(bL ks n)[i]?=⇑p/\kv=(Sum.inl (p.1:Int),V.int (p.2:Int)):=by
 unfold bg g8 at h;rw[Hk] at h;cases q:(bL ks n)[i]? with
 | none=>rw[q] at h; cases h
 | some p=>rw[q] at h; show#[p,rfl,by simpa using h.symm]
abbrev EH (l:List Nat):List V:=l.map λ(n:Nat)=>V.int (n:Int)
abbrev fT (H:Hp) (v:V):Hl (List Nat)->Prop
 | none=>v=.non
 | some l=>∃p,v=↥p/\H p=⇑(.tup (EH l))
def fT.mono {H':Hp}{v:V} {o:Hl (List Nat)} (h:fT H v o) (e:aB H H'):fT H' v o:=by
 cases o with
 | none=>exact h
 | some l=>let#[p,h1,h2]:=h; show#[p,h1,e _ _ h2]
def fT.lst {H:Hp} {q:L6} {l l':List V} {v:V} {o:Hl (List Nat)} (h:fT H v o) (hq:H q=⇑(.lst l)):fT (upd H q (.lst l')) v o:=by
 cases o with
 | none=>exact h
 | some l=>let#[p,h1,h2]:=h; show#[p,h1,by rw[aM (i5 h2 hq (by intro z; cases z))]; exact h2]
abbrev FoundN (H:Hp) (l:L6) (ks:List Str) (i:Nat):Prop:=∃vs:List V,H l=⇑(.lst vs)/\vs.length=i/\∀k v,vs[k]?=⇑v->∃o,Due ks k o/\fT H v o
def FoundN.mono {H H':Hp} {l:L6} {ks:List Str} {i:Nat} (h:FoundN H l ks i) (e:aB H H'):FoundN H' l ks i :=
 by let#[vs,h1,h2,h3]:=h; show#[vs,e _ _ h1,h2,λk v q=>by let#[o,d,z]:=h3 k v q; show#[o,d,z*>e]]
def FoundN.push {l:L6} {vs:List V} {v:V} {o:Hl (List Nat)} (h1:H l=⇑(.lst vs)) (h2:vs.length=i) (h3:∀k v,vs[k]?=⇑v->∃o,Due ks k o/\fT H v o) (hd:Due ks i o) (hv:fT H v o):FoundN (upd H l (.lst (vs++[v]))) l ks (i+1):=by
 show#[_,aH,by rw[HZ,h2]; rfl,λk v' q=>?_];rcases Ig k vs.length with z|z
 . rw[IV z] at q;let#[o',d,y]:=h3 k v' q;show#[o',d,y.lst h1]
 . rw[IS z] at q;have hk:k - vs.length=0:=by
     rcases Nat.eq_zero_or_pos (k - vs.length) with y|y
     . exact y
     . rw[Jm (by simp; lia)] at q;cases q
   rw[hk] at q;have hv':v=v':=↑q
   subst hv';have:k=i:=by lia
   subst this;show#[o,hd,hv.lst h1]
section
variable {P:Program} {w:World} {K:L7} {mg:Str->Hl K'} {base:Heap}
abbrev sp_begins_of (K:L7):Sp:=λvs H Q _=>∃(a:L6) (ks:List Str),vs=[↥a]/\RowsAt K H a ks/\Wf ks/\ks.length<=1000/\∀d H',aB H H'->H d=none->H' d=⇑(.dK (bg ks ks.length))->Q ↥d H'
abbrev sp_firsts_behind (K:L7):Sp:=λvs H Q _=>∃(a d:L6) (ks:List Str),vs=[↥a,↥d]/\RowsAt K H a ks/\Wf ks/\ks.length<=1000/\H d=⇑(.dK (bg ks ks.length))/\∀l o H',aB (upd H d (.frz o (.dK (bg ks ks.length)))) H'->H l=none->tO H' l ks->Q ↥l H'
abbrev sp_ways (K:L7):Sp:=λvs H Q _=>∃(a:L6) (ks:List Str),vs=[↥a]/\RowsAt K H a ks/\Wf ks/\ks.length<=1000/\∀l H',aB H H'->H l=none->FoundN H' l ks ks.length->Q ↥l H'
def gG {n:Nat} (h:n<1000000):n<=sizeLine:=by
 have:(1000000:Nat)<sizeLine:=by decide
 lia
end
end K13
namespace Fl
open PySem L2 Gx
structure Rw where
 r:Addr
 k:Str
 c:Str
structure Fd where
 name:Str
 fa:Addr
 ra:Addr
 rs:List Rw
abbrev iu (K:L7) (H:Hp) (w:Rw):Prop:=∃rest,aG K H w.r (V.str w.k::rest)/\(w.k="call"->∃x y,rest=[x,.str w.c,y])
variable {H:Hp}
def iu.mono {K:L7} {H':Hp}{w:Rw} (e:aB H H') (h:iu K H w):iu K H' w:=by let#[rest,h1,h2]:=h; show#[rest,e<*h1,h2]
structure FnAt (K:W.Frag) (H:Hp) (f:Fd):Prop where
 fn:∃fo pa,aG K H f.fa [.str f.name,fo,↥pa,↥f.ra]
 rw_:aG K H f.ra (f.rs.map λw=>V.ref w.r)
 rk:∀w∈f.rs,iu K H w
 fu:∃ps ds,K12.FunAt K H f.fa ps ds
 wf:K13.Wf (f.rs.map (·.k))
 len:f.rs.length<=100
def FnAt.mono {K:L7} {H H':Hp} {f:Fd} (e:aB H H') (h:FnAt K H f):FnAt K H' f :=
 #[by let#[a,b,z]:=h.fn; show#[a,b,e<*z],e<*h.rw_,λw hw=>(h.rk w hw)*>e,by let#[a,b,z]:=h.fu; show#[a,b,z*>e],h.wf,h.len]
def FnAt.rows {K:L7} {f:Fd} (h:FnAt K H f):K13.RowsAt K H f.ra (f.rs.map (·.k)):=by
 show#[f.rs.map (·.r),by rw[Iq]; exact h.rw_,by rw[HS,HS],λi r hr=>?_];rw[Hk] at hr;cases e:f.rs[i]? with
 | none=>rw[e] at hr; cases hr
 | some w =>
   rw[e] at hr;cases hr;let#[rest,h1,_]:=h.rk w (IA e);show#[rest,?_];have:K13.kd (f.rs.map (·.k)) i=w.k:=by unfold K13.kd;rw[Ii,Hk,e];rfl
   rw[this];exact h1
structure FS (C:Addr) (H:Hp) (x dx:Addr) (fs:List (Str×V)) (d:Nat->Addr) (kv:Nat->List (aF×V)):Prop where
 ob:H x=⇑(.ins C dx fs)
 dc:∀j,j<6->H (d j)=⇑(.dK (kv j))
def FS.mono {C:L6} {H':Hp}{x dx:L6} {fs:List (Str×V)} {d:Nat->L6} {kv:Nat->List (aF×V)} (e:aB H H') (h:FS C H x dx fs d kv):FS C H' x dx fs d kv:=#[e _ _ h.ob,λj hj=>e _ _ (h.dc j hj)]
def FS.put {C:L6} {x dx:L6} {fs:List (Str×V)} {d:Nat->L6} {kv:Nat->List (aF×V)} (h:FS C H x dx fs d kv) (inj:∀i j,i<6->j<6->d i=d j->i=j) (j:Nat) (hj:j<6) (k':List (aF×V)):FS C (upd H (d j) (.dK k')) x dx fs d (λi=>if i=j then k' else kv i):=by
 show#[?_,λi hi=>?_]
 . rw[aM (i5 h.ob (h.dc j hj) (by intro z; cases z))]; exact h.ob
 . by_cases e:i=j
   . subst e;rw[aH,He rfl]
   . rw[aM (λz=>e (inj i j hi hj z)),HX e];exact h.dc i hi
abbrev dA (v:V) (d:Nat->L6):List (Str×V):=bO "ways_in" ↥(d 5) (bO "names_in" ↥(d 4) (bO "rows_of" ↥(d 3) (bO "params_of" ↥(d 2) (bO "folded_of" ↥(d 1) (bO "number_of" ↥(d 0) (bO "last" v []))))))
def C0 (v:V) (d:Nat->L6):(dA v d).lookup ("number_of":Str)=⇑↥(d 0):=by unfold dA;rw[bo,HX 0x4,bo,HX 0x4,bo,HX 0x4,bo,HX 0x4,bo,HX 0x4,bo,He rfl]
def AR (v:V) (d:Nat->L6):(dA v d).lookup ("folded_of":Str)=⇑↥(d 1):=by unfold dA;rw[bo,HX 0x4,bo,HX 0x4,bo,HX 0x4,bo,HX 0x4,bo,He rfl]
def zu (v:V) (d:Nat->L6):(dA v d).lookup ("params_of":Str)=⇑↥(d 2):=by unfold dA;rw[bo,HX 0x4,bo,HX 0x4,bo,HX 0x4,bo,He rfl]
def Ds (v:V) (d:Nat->L6):(dA v d).lookup ("rows_of":Str)=⇑↥(d 3):=by unfold dA;rw[bo,HX 0x4,bo,HX 0x4,bo,He rfl]
def tP (v:V) (d:Nat->L6):(dA v d).lookup ("names_in":Str)=⇑↥(d 4):=by unfold dA;rw[bo,HX 0x4,bo,He rfl]
def EI (v:V) (d:Nat->L6):(dA v d).lookup ("ways_in":Str)=⇑↥(d 5):=by unfold dA;rw[bo,He rfl]
def F5 (v:V) (d:Nat->L6):(dA v d).lookup ("last":Str)=⇑v:=by unfold dA;rw[bo,HX 0x4,bo,HX 0x4,bo,HX 0x4,bo,HX 0x4,bo,HX 0x4,bo,HX 0x4,bo,He rfl]
abbrev dd (d0 d1 d2 d3 d4 d5:L6):Nat->L6
 | 0=>d0
 | 1=>d1
 | 2=>d2
 | 3=>d3
 | 4=>d4
 | _=>d5
def zt {d0 d1 d2 d3 d4 d5:L6} (h:[d0,d1,d2,d3,d4,d5].Nodup) (i j:Nat) (hi:i<6) (hj:j<6) (e:dd d0 d1 d2 d3 d4 d5 i=dd d0 d1 d2 d3 d4 d5 j):i=j:=by
 have g:∀k,k<6->[d0,d1,d2,d3,d4,d5][k]?=⇑(dd d0 d1 d2 d3 d4 d5 k):=λk hk=>by rcases k with _|_|_|_|_|_|k <;> first|rfl|lia
 exact(K1 hi h).mp ((g i hi)\((Hr some e)\(g j hj).symm))
def bI {a b:L6} {o:HO} (h:upd H a o b=none):b≠a/\H b=none:=by
 have hn:b≠a:=λz=>by rw[z,aH] at h; cases h
 rw[aM hn] at h;show#[hn,h]
def au {a b:L6} {o o':HO} (h:H b=⇑o) (hn:b≠a):upd H a o' b=⇑o:=by rw[aM hn]; exact h
def jP (f:Str) (v:V) (l:List (Str×V)) (k:Nat) (h:l.length<=k):(bO f v l).length<=k+1:=Hu (mQ f v l) ∅
end Fl
namespace L2
open PySem
abbrev hl (H:Hp):Hp:=λb=>match H b with
 | some (.lst xs)=>⇑(.lst xs)
 | some (.tup xs)=>⇑(.tup xs)
 | _=>none
variable {H:Hp}
def ot :aB (hl H) H:=λb o h=>by
 unfold hl at h;split at h
 . rename_i e; rw[e]; exact h
 . rename_i e; rw[e]; exact h
 . cases h
def w5 {b:L6} {xs:List V} (h:H b=⇑(.lst xs)):hl H b=⇑(.lst xs):=by unfold hl; rw[h]
def CD {b:L6} {xs:List V} (h:H b=⇑(.tup xs)):hl H b=⇑(.tup xs):=by unfold hl; rw[h]
def aB.hl {H H':Hp} (e:aB H H'):aB (hl H) (hl H'):=λb o h=>by have h1:=ot _ _ h;have h2:=e _ _ h1;unfold L2.hl at h ⊢;rw[h1] at h;rw[h2];exact h
def BS {a:L6} {o:HO} (h:∀xs,H a≠⇑(.lst xs)/\H a≠⇑(.tup xs)) (ho:∀xs,o≠.lst xs/\o≠.tup xs):hl (upd H a o)=hl H:=by
 funext b;unfold hl upd;by_cases hb:b=a
 . subst hb;rw[He rfl];cases o with
   | lst xs=>exact absurd rfl (ho xs).1
   | tup xs=>exact absurd rfl (ho xs).2
   | _ =>
     cases e:H b with
     | none=>rfl
     | some u=>cases u with
       | lst xs=>exact absurd e (h xs).1
       | tup xs=>exact absurd e (h xs).2
       | _=>rfl
 . rw[HX hb]
def jE {a:L6} {kvs kvs':List (aF×V)} (h:H a=⇑(.dK kvs)):hl (upd H a (.dK kvs'))=hl H :=
 BS (λxs=>#[(by rw[h]; intro z; cases z),(by rw[h]; intro z; cases z)]) λxs=>#[(by intro z; cases z),(by intro z; cases z)]
end L2
namespace K13
open PySem L2
def FoundN.hl {H:Hp} {l:L6} {ks:List Str} {i:Nat} (h:FoundN H l ks i):FoundN (L2.hl H) l ks i:=by
 let#[vs,h1,h2,h3]:=h;show#[vs,w5 h1,h2,λk v q=>?_];let#[o,d,z]:=h3 k v q;show#[o,d,?_];cases o with
 | none=>exact z
 | some l=>let#[p,z1,z2]:=z; show#[p,z1,CD z2]
end K13
namespace F2
open PySem L2 Gx Fl
structure Fd where
 name:Str
 fo:V
 fa:Addr
 pa:Addr
 ra:Addr
 ps:List Str
 rs:List Rw
 ds:List K12.RowD
structure FnAt (K:W.Frag) (H:Hp) (f:Fd):Prop where
 fn:aG K H f.fa [.str f.name,f.fo,↥f.pa,↥f.ra]
 pr:aG K H f.pa (f.ps.map V.str)
 rw_:aG K H f.ra (f.rs.map λw=>V.ref w.r)
 rk:∀w∈f.rs,iu K H w
 fu:K12.FunAt K H f.fa f.ps f.ds
 wf:K13.Wf (f.rs.map (·.k))
 len:f.rs.length<=100
def FnAt.mono {K:L7} {H H':Hp} {f:Fd} (e:aB H H') (h:FnAt K H f):FnAt K H' f :=
 #[e<*h.fn,e<*h.pr,e<*h.rw_,λw hw=>(h.rk w hw)*>e,h.fu*>e,h.wf,h.len]
abbrev toF (f:Fd):Fl.Fd:=#[f.name,f.fa,f.ra,f.rs]
def FnAt.old {K:L7} {H:Hp} {f:Fd} (h:FnAt K H f):Fl.FnAt K H (toF f):=#[#[4,h.fn],h.rw_,h.rk,#[4,h.fu],h.wf,h.len]
abbrev nms (f:Fd):List Str:=K12.onceL (K12.allOf f.ps f.ds)
abbrev jU (f:Fd):List Str:=f.rs.map (·.k)
abbrev kD (g:Nat->Fd->V) (fns:List Fd):List (aF×V):=fns.mapIdx λi f=>(Sum.inr f.name,g i f)
def AQ (g:Nat->Fd->V) (fns:List Fd) (f:Fd):kD g (fns++[f])=kD g fns++[(Sum.inr f.name,g fns.length f)]:=by unfold kD;rw[List.mapIdx_append];simp
variable {fns:List Fd}
def BA {g g':Nat->Fd->V} (h:∀i f,i<fns.length->g i f=g' i f):kD g fns=kD g' fns:=by unfold kD;refine List.ext_getElem 0x6 λi h1 h2=>?_;simp only[List.getElem_mapIdx];rw[h i _ ↑h1]
def E4 (g:Nat->Fd->V) {s:Str} (h:s ∉ fns.map (·.name)):aq (kD g fns) (Sum.inr s:aF)=none:=by
 unfold aq;rw[Option.map_eq_none_iff,List.find?_eq_none];intro kv hkv z;unfold kD at hkv;let#[i,hi,e]:=List.mem_mapIdx.mp hkv;subst e;have z:(Sum.inr fns[i].name:aF)=Sum.inr s:=↑z
 exact h (IJ.mpr #[fns[i],IT hi,Sum.inr.inj z])
def tH {f:Fd} {i:Nat} (h:fns[i]?=⇑f) (nd:(fns.map (·.name)).Nodup):f.name ∉ (fns.take i).map (·.name):=by
 intro z;let#[g,hg,e]:=IJ.mp z;let#[j,hj]:=List.getElem?_of_mem hg;have hji:j<i:=by
   have:=(HV.mp hj).1;rw[IE] at this
   lia
 rw[JE hji] at hj;have h1:(fns.map (·.name))[i]?=⇑f.name:=by rw[Hk,h]; rfl
 have h2:(fns.map (·.name))[j]?=⇑f.name:=by rw[Hk,hj]; exact Hr some e
 have:=(K1 (HV.mp h2).1 nd).mp (h2\h1.symm)
 lia
def iK {g g':Nat->Fd->V} {f:Fd} {i:Nat} {v:V} (h:fns[i]?=⇑f) (nd:(fns.map (·.name)).Nodup) (hg:∀j f,j<i->g j f=g' j f) (hv:v=g' i f):putK (kD g (fns.take i)) 0x9 v=kD g' (fns.take (i+1)):=by
 have hi:i<fns.length:=(HV.mp h).1;have hl:(fns.take i).length=i:=by rw[IE]; lia
 rw[uR _ (E4 g (tH h nd)),IM,h];show _=kD g' (fns.take i++[f]);rw[AQ,hl,<- hv,BA (g:=g) (g':=g') λj f hj=>hg j f ∅]
def kD_at (g:Nat->Fd->V):∀{fns:List Fd} {i:Nat} {f:Fd},(fns.map (·.name)).Nodup->fns[i]?=⇑f->aq (kD g fns) 0x9=⇑(g i f):=by
 intro fns i f nd h;have hi:i<fns.length:=(HV.mp h).1;have key:∀k,i<k->k<=fns.length->aq (kD g (fns.take k)) 0x9=⇑(g i f):=by
   intro k
   induction k with
   | zero=>intro h0; exact absurd h0 (Ir _)
   | succ k ih =>
     intro hk hk';obtain⟨f',hf'⟩:∃f',fns[k]?=⇑f':=#[fns[k],HU ∅]
     rw[<- iK (g:=g) (g':=g) hf' nd (λ_ _ _=>rfl) rfl,cZ];by_cases e:i=k
     . subst e;rw[h] at hf';cases hf';rw[He rfl]
     . have hn:¬ 0x9=Sum.inr f'.name:=λz=>tH hf' nd (IJ.mpr #[f,IA (by rw[JE (show i<k by lia)]; exact h),Sum.inr.inj z]);rw[HX hn];exact ih ∅ ∅
 have:=key fns.length hi (HY _);rw[IP] at this;exact this
structure FlowsAt (K:W.Frag) (C:Addr) (H:Hp) (x:Addr) (fns:List Fd):Prop where
 all:∀f∈fns,FnAt K H f
 nd:(fns.map (·.name)).Nodup
 ob:∃dx fz d kv,∃nl wl:Nat->Addr,fns[fns.length - 1]?=⇑fz/\FS C H x dx (dA (V.str fz.name) d) d kv/\kv 0=kD (λi _=>.int i) fns/\kv 1=kD (λ_ f=>f.fo) fns/\kv 2=kD (λ_ f=>↥f.pa) fns/\kv 3=kD (λ_ f=>↥f.ra) fns /\
   kv 4=kD (λi _=>↥(nl i)) fns/\kv 5=kD (λi _=>↥(wl i)) fns/\∀i f,fns[i]?=⇑f->H (nl i)=⇑(.lst ((nms f).map V.str))/\K13.FoundN H (wl i) (jU f) (jU f).length
def FlowsAt.mono {K:L7} {C:L6} {H H':Hp} {x:L6} {fns:List Fd} (e:aB H H') (h:FlowsAt K C H x fns):FlowsAt K C H' x fns:=by let#[dx,fz,d,kv,nl,wl,h0,h1,h2,h3,h4,h5,h6,h7,h8]:=h.ob;show#[λf hf=>(h.all f hf)*>e,h.nd,#[dx,fz,d,kv,nl,wl,h0,h1*>e,h2,h3,h4,h5,h6,h7,λi f hi=>#[e _ _ (h8 i f hi).1,(h8 i f hi).2.mono e]]]
end F2
namespace K21
open PySem L2
noncomputable abbrev wide:Int:=281474976710656
abbrev bw (s:Str) (a b:Int):Int:=if s="&" then Builtin.bitAnd a b else if s="|" then Builtin.bitOr a b else Builtin.bitXor a b
abbrev jf (s:Str) (x y:Int):Int:=if s="&" then x * y else if s="|" then x+y - x * y else(x+y)%2
def oF (x:Int):x%2=0\/x%2=1:=by lia
def zw (s:Str) (a b:Int):0<=jf s (a%2) (b%2)/\jf s (a%2) (b%2)<=1:=by unfold jf;rcases oF a with h|h <;> rcases oF b with h' | h' <;> rw[h,h'] <;> (split; decide; split <;> decide)
def EC {x y:Int} (hx:0<=x) (hy:0<=y):Builtin.bitAnd x y=2 * Builtin.bitAnd (x / 2) (y / 2)+(x%2) * (y%2):=by
 let#[n,rfl]:=Iv hx;let#[m,rfl]:=Iv hy;rw[PyProof.Rows.bitAnd_pp hx hy,PyProof.Rows.bitAnd_pp ∅ ∅];have e1:(Int.ofNat n).toNat=n:=rfl;have e2:(Int.ofNat m).toNat=m:=rfl;have e3:((n:Int) / 2).toNat=n / 2:=by lia
 have e4:((m:Int) / 2).toNat=m / 2:=by lia
 have a1:((n &&& m) / 2)=(n / 2) &&& (m / 2):=Nat.and_div_two;have a2:(n &&& m)%2=(n%2) * (m%2):=by have h1:=Nat.and_mod_two_eq_one (a:=n) (b:=m);rcases Ke n with h|h <;> rcases Ke m with h' | h' <;> rw[h,h'] at h1 ⊢ <;> lia
 have a3:=Nat.div_add_mod (n &&& m) 2;show((n &&& m:Nat):Int)=_;rw[e3,e4,<- a1];have a4:((n:Int)%2) * ((m:Int)%2)=(((n%2) * (m%2):Nat):Int):=by rw[Int.natCast_mul];rfl
 show _=2 * (((n &&& m) / 2:Nat):Int)+((n:Int)%2) * ((m:Int)%2);rw[a4,<- a2]
 lia
def Ej (s:Str) {a b:Int} (ha:0<=a) (hb:0<=b):bw s a b=2 * bw s (a / 2) (b / 2)+jf s (a%2) (b%2):=by
 have h:=EC ha hb;unfold bw jf;split
 . exact h
 . split
   . rw[K5,K5,h]
     lia
   . have e:∀x y:Int,Builtin.bitXor x y=x+y - 2 * Builtin.bitAnd x y:=λx y=>by
       unfold Builtin.bitXor;rw[K5]
       lia
     rw[e,e,h];rcases oF a with p|p <;> rcases oF b with p' | p' <;> rw[p,p'] <;> lia
def Gc (s:Str):bw s 0 0=0:=by
 unfold bw;split
 . rfl
 . split <;> rfl
def ue (s:Str):∀(n:Nat) {a b:Int},0<=a->0<=b->a<2 ^ n->b<2 ^ n->0<=bw s a b/\bw s a b<2 ^ n
 | 0,a,b,h1,h2,h3,h4=>by
   have e1:a=0:=by simp at h3; lia
   have e2:b=0:=by simp at h4; lia
   subst e1 e2;rw[Gc];decide
 | n+1,a,b,h1,h2,h3,h4=>by
   rw[Int.pow_succ] at h3 h4 ⊢;have ih:=ue s n (a:=a / 2) (b:=b / 2) ∅ ∅ ∅ ∅;have st:=Ej s h1 h2;have bb:=zw s a b
   lia
abbrev valOf (s:Str) (a b:Int):Int :=
 if s="+" then(a+b)%wide else if s="-" then(a - b)%wide else if s="*" then(a * b)%wide else if s="/" then(if b=0 then 0 else a / b)
 else if s="<" then(if a<b then 1 else 0) else if s="=" then(if a=b then 1 else 0) else bw s a b
def BN (s:Str) {a b:Int} (ha:0<=a) (hb:0<=b) (ha':a<wide) (hb':b<wide):0<=valOf s a b/\valOf s a b<wide:=by
 have m:∀z:Int,0<=z%wide/\z%wide<wide:=λz=>#[JT _ #[],JN _ #[]]
 unfold valOf;split
 . exact m _
 split
 . exact m _
 split
 . exact m _
 split
 . split
   . decide
   . have h1:0<=a / b:=Int.ediv_nonneg ha hb;have h2:a / b<=a:=Int.ediv_le_self b ha
     lia
 split
 . split <;> decide
 split
 . split <;> decide
 exact ue s 48 ha hb ha' hb'
end K21
namespace L2
open PySem PySem.Spec PyProof.Rows
inductive WVar (i:Nat) (σ:St) (H:Hp) (Q:VK):Prop
 | mk (v:V) (h:σ[i]?=⇑⇑v) (q:Q v H):WVar i σ H Q
abbrev Ga (i:Nat):TE:=λσ H Q=>WVar i σ H Q
variable {X:Cx}
def aA (i:Nat) {x:Str} {pos:Pos} (hN:X.N[i]?=⇑x:=by rfl) (hv:ky X.env.scope x:=by first|exact Or.inl rfl|exact Or.inr 0x5|exact Or.inr (Or.inr rfl)) (hd:(x==("__debug__":Str))=false:=by decide)
   (hcd:(x==("__classdict__":Str))=false:=by decide):PE X (.Name x pos) (Ga i):=λpins s σ H Q I h=>pv i hN hv hd hcd pins s σ H Q I (by let#[v,e,q]:=h; show#[v,e,q])
inductive WIxL (K:W.Frag) (x y:V) (H:Hp) (Q:VK):Prop
 | mk (p:Addr) (xs:List V) (i:Int) (v:V) (h1:x=↥p) (h2:y=.int i) (h3:aE K H p xs) (h4:am xs i=⇑v) (q:Q v H):WIxL K x y H Q
inductive WIxT (K:W.Frag) (x y:V) (H:Hp) (Q:VK):Prop
 | mk (p:Addr) (xs:List V) (i:Int) (v:V) (h1:x=↥p) (h2:y=.int i) (h3:aG K H p xs) (h4:am xs i=⇑v) (q:Q v H):WIxT K x y H Q
abbrev qM (K:L7):R2:=λx y H Q=>WIxL K x y H Q
abbrev qu (K:L7):R2:=λx y H Q=>WIxT K x y H Q
def et.imp {r r':R2} (h:et X r) (f:∀x y H Q,r' x y H Q->r x y H Q):et X r':=λa b pins s σ H x y v u Q I r1 r2 q z=>h a b pins s σ H x y v u Q I r1 r2 (f x y H Q q) z
def bP.imp {g:K'->K'->Sem K'} {r r':R2} (h:bP X g r) (f:∀x y H Q,r' x y H Q->r x y H Q):bP X g r':=λpins s σ H x y v u Q I r1 r2 q=>h pins s σ H x y v u Q I r1 r2 (f x y H Q q)
def ao.imp {g:K'} {r r':List V->Hp->VK->Prop} (h:ao X g r) (f:∀xs H Q,r' xs H Q->r xs H Q):ao X g r':=λpins s σ H xs us Q I r1 q=>h pins s σ H xs us Q I r1 (f xs H Q q)
def vj :et X (qM X.K):=gg.imp λx y H Q h=>by let#[p,xs,i,v,h1,h2,h3,h4,q]:=h; show#[p,xs,i,v,h1,h2,h3,h4,q]
def vm :et X (qu X.K):=fH.imp λx y H Q h=>by let#[p,xs,i,v,h1,h2,h3,h4,q]:=h; show#[p,xs,i,v,h1,h2,h3,h4,q]
inductive WI (C:Int->Int->Prop) (g:Int->Int->V) (x y:V) (H:Hp) (Q:VK):Prop
 | mk (i j:Int) (h1:x=.int i) (h2:y=.int j) (h3:C i j) (q:Q (g i j) H):WI C g x y H Q
inductive WI0 (g:Int->Int->V) (x y:V) (H:Hp) (Q:VK):Prop
 | mk (i j:Int) (h1:x=.int i) (h2:y=.int j) (q:Q (g i j) H):WI0 g x y H Q
abbrev cI (C:Int->Int->Prop) (g:Int->Int->V):R2:=λx y H Q=>WI C g x y H Q
abbrev cI0 (g:Int->Int->V):R2:=λx y H Q=>WI0 g x y H Q
def aV {f:K'->K'->Sem K'} {C:Int->Int->Prop} {g:Int->Int->V} (h:bP X f (rI C g)):bP X f (cI C g):=h.imp λx y H Q h=>by let#[i,j,h1,h2,h3,q]:=h; show#[i,j,h1,h2,h3,q]
def aw {f:K'->K'->Sem K'} {g:Int->Int->V} (h:bP X f (fg g)):bP X f (cI0 g):=h.imp λx y H Q h=>by let#[i,j,h1,h2,q]:=h; show#[i,j,h1,h2,q]
inductive WLen (K:W.Frag) (xs:List V) (H:Hp) (Q:VK):Prop
 | mk (p:Addr) (ys:List V) (h1:xs=[↥p]) (h2:aE K H p ys\/aG K H p ys) (q:Q (.int ys.length) H):WLen K xs H Q
abbrev bc (K:L7):List V->Hp->VK->Prop:=λxs H Q=>WLen K xs H Q
def bh :ao X (.builtin "len") (bc X.K):=j4.imp λxs H Q h=>by let#[p,ys,h1,h2,q]:=h; show#[p,ys,h1,h2,q]
inductive WApp (x:V) (vs:List V) (H:Hp) (Q:VK):Prop
 | mk (l:Addr) (xs:List V) (y:V) (h1:x=↥l) (h2:vs=[y]) (h3:H l=⇑(.lst xs)) (h4:xs.length<sizeLine) (q:Q .non (upd H l (.lst (xs++[y])))):WApp x vs H Q
abbrev Bt:V->List V->Hp->VK->Prop:=λx vs H Q=>WApp x vs H Q
def fY :jA X "list.append" Bt:=λpins s σ H x xs v us Q I r1 r2 q=>jO pins s σ H x xs v us Q I r1 r2 (by let#[l,xs,y,h1,h2,h3,h4,q]:=q; show#[l,xs,y,h1,h2,h3,h4,q])
inductive WBl (x:V) (H:Hp) (Q:Bool->Hp->Prop):Prop
 | mk (k:Bool) (h:x=.bl k) (q:Q k H):WBl x H Q
abbrev wP (t:TE):TT:=λσ H Q=>t σ H λx H'=>WBl x H' Q
section
variable {X:Cx} {a b:Expr} {ta tb:TE} {pos:Pos}
def aj {op:CmpOp} {r:R2} (ho:bP X (compareOp op) r) (ha:PE X a ta) (hb:PE X b tb) (hm:behindInMarks op b=false):PT X (.Compare a [op] [b] pos) (wP (gK r ta tb)):=by
 intro pins s σ H Q I h;refine KA (aQ (ha pins s σ H _ I h) λv s1 ⟨x,H1,I1,r1,q1⟩=>aQ (hb pins s1 σ H1 _ I1 q1) λu s2 ⟨y,H2,I2,r2,q2⟩ =>
   aQ (ho pins s2 σ H2 x y v u _ I2 r1 r2 q2) λc s3 z153_=>z153_.e λz H3 I3 r3 w=>?_) hm
 let#[k,e,q3]:=w;subst e;cases r3;exact JH #[H3,I3,q3]
def cL {e:Expr} {t:TE} (h:PE X e t) (he:∀whole,isTrue e X.env whole=(do let v <- whole; standAt e.pos; holding [v] (truthy v)):=by intro _; rfl):PT X e (wP t):=by intro pins s σ H Q I hw;refine isTrue_plain (aQ (h pins s σ H _ I hw) λv s1 z154_=>?_) (he _);let#[x,H1,I1,r1,q1]:=z154_;let#[d,rfl,q]:=q1;cases r1;exact JH #[H1,I1,q]
end
abbrev Ag (t u:TS):TS:=λD σ H=>∃M:St->Hp->Prop,t { D with nx:=M } σ H/\∀σ' H',M σ' H'->u D σ' H'
def gT {X:Cx} {st:Stmt} {rest:List Stmt} {t u:TS} (h1:PS X st t) (h2:aO X rest u):aO X (st::rest) (Ag t u):=Ae h1 h2
end L2
namespace Ex
open PySem PySem.W PyProof.Rows PySem.Spec
variable {rest:List K'}
section
variable {prog:Program} {w:World} {A:Around} {E:K'->L5->Prop} {R:Result->L5->Prop} {h:Heap} {g:Array GenState} {d:Drawn} {t:Nat} {os:OsState}
 {nm q:Str} {C N:L6} {bs bm:List K'} {hdct:Bool} {sn:List Str} {sub:List K'} {ab:Bool} {col:Hl Bool} {dd:Hl L6} {k0 k1 k2 k3 k5:Hl K'}
structure VE (C:Addr) (bm:List Value):Prop where
 b:(Value.ref C::bm).contains (.type "ValueError")=true
 e:(Value.ref C::bm).contains (.type "BaseException")=true
 a:(Value.ref C::bm).contains (.type "AttributeError")=false
 n:(Value.ref C::bm).contains (.type "NameError")=false
def Ct {M:Model} (hC:h.get? C=⇑(excClassObj nm q C N bs bm hdct sn sub ab col dd k0 k1 k2 k3 k5 "ValueError.__new__")) (V:VE C bm) {Q:Unit->L5->Prop}
   (hq:Q () #[h,g,d,t,os]):wpAny M A (checkBuiltinCall "ValueError.__new__" #[↥C::rest,[]]) Q E #[h,g,d,t,os]:=by
 have F:=J4;have v:=V.b;have st:=F.noStar;simp only[checkBuiltinCall,F.newKind,F.newSplit,F.newRow]
 repeat (first|refine Iz hC ?_|(refine Jd hC ?_; rw[v])|refine wpAny_staticBase_exc hC ?_|refine wpAny_madeBy_exc hC ?_|simp only[bne_self_eq_false,JA,if_false] | wp_step)
 exact hq
abbrev iz (h:Heap) (C:L6) (rest:List K'):Heap:=(h.push { cls:=.type "tuple",data:=.seq rest.toArray }).push { cls:=↥C,data:=.fields (List.toArray [↥h.objs.size,.none,.none,.none,.bool false,.none]) }
def heapX_keeps :∀b o,h.get? b=⇑o->(iz h C rest).get? b=⇑o:=λ_ _ e=>HW _ (HW _ e)
def heapX_at :(iz h C rest).get? (h.objs.size+1)=some { cls:=↥C,data:=.fields (List.toArray [↥h.objs.size,.none,.none,.none,.bool false,.none]) }:=by unfold iz; heap_get
def Do (hC:h.get? C=⇑(excClassObj nm q C N bs bm hdct sn sub ab col dd k0 k1 k2 k3 k5 "ValueError.__new__")) (V:VE C bm) (hz:rest.length<=sizeLine)
   (hq:R (.ok (.ret ↥(h.objs.size+1))) #[iz h C rest,g,d,t,os]):codeAny 0x3 A (.builtin "ValueError.__new__" #[↥C::rest,[]]) R #[h,g,d,t,os]:=by
 have F:=J4;have en:=F.ends;have vb:=V.b;have va:=V.a;have vn:=V.n;refine codeAny_builtinAt F.entry ?_;unfold Builtin.«BaseException.__new__»;refine PySem.wpAt_bind ?_;show PySem.wpAt _ _ _ (stack >>= _) _ _ _;refine PySem.wpAt_bind (PySem.wpAt_stack λp below=>PySem.wpAt_of_wpAny ?_)
 wp_walk
 refine PySem.wpAt_of_wpAny ?_;rw[F.owner]
 repeat (first|with_reducible refine wpAny_madeHere_exc F.canon hC ?_|with_reducible refine Iz hC ?_|(with_reducible refine Jd hC ?_; first|rw[vb] | rw[va] | rw[vn])|wp_step)
 show R _ _;rw[Iy];exact hq
def BU (hC:h.get? C=⇑(excClassObj nm q C N bs bm hdct sn sub ab col dd k0 k1 k2 k3 k5 "ValueError.__new__")) (V:VE C bm) (hz:rest.length<=sizeLine) {fI:K'}
   (hi:Looks 0x3 h (typeLookup ↥C "__init__") ⇑fI) (hb:Looks 0x3 h (bindSpecial fI ↥(h.objs.size+1)) (fI,[↥(h.objs.size+1)])) {Q:Fin->L5->Prop}
   (hq:wpAny 0x3 A (call fI (↥(h.objs.size+1)::rest)) (λr s'=>r=.none/\Q (.done (.ret ↥(h.objs.size+1))) s') E #[iz h C rest,g,d,t,os]) :
   wpAny 0x3 A (Builtin.«type.__call__» #[↥C::rest,[]]) Q E #[h,g,d,t,os]:=by
 repeat (first|with_reducible refine Iz hC ?_|with_reducible refine wpAny_madeBy_exc hC ?_|wp_step)
 refine codeAny_call_builtin_code (Code.quiet_builtin _ J4.quiet) (Ct hC V ?_);refine Do hC V hz ?_;show wpAny _ _ _ _ _ _;have hC1:=heapX_keeps (C:=C) (rest:=rest) _ _ hC;have hg:=heapX_at (h:=h) (C:=C) (rest:=rest);have hcC:(Value.ref C::bm).contains ↥C=true:=by simp
 have i1:=hi.keeps (heapX_keeps (C:=C) (rest:=rest));have b1:=hb.keeps (heapX_keeps (C:=C) (rest:=rest));unfold isInstance
 repeat (first|with_reducible refine Iz hg ?_|(with_reducible refine Jd hC1 ?_; rw[hcC])|wp_step)
 show wpAny _ _ (typeLookup ↥C _) _ _ _;refine i1.at ?_;refine IW (HR ?_);refine b1.at ?_;refine HR (Il hq (λr s' hr=>?_) λ_ _ x=>x);let#[rfl,hQ]:=hr
 wp_walk
 exact hQ
def x_call (hC:h.get? C=⇑(excClassObj nm q C N bs bm hdct sn sub ab col dd k0 k1 k2 k3 k5 "ValueError.__new__")) (V:VE C bm) (hz:rest.length<=sizeLine) {fI:K'}
   (hi:Looks 0x3 h (typeLookup ↥C "__init__") ⇑fI) (hb:Looks 0x3 h (bindSpecial fI ↥(h.objs.size+1)) (fI,[↥(h.objs.size+1)])) {Q:K'->L5->Prop}
   (hq:wpAny 0x3 (A.under (.builtin "type.__call__" #[↥C::rest,[]])) (call fI (↥(h.objs.size+1)::rest)) (λr s'=>r=.none/\Q ↥(h.objs.size+1) s') E #[iz h C rest,g,d,t,os]) :
   wpAny 0x3 A (call ↥C rest) Q E #[h,g,d,t,os]:=by
 have f1:=tc_lookup;have f2:=tc_bind ↥C;have hT:(⟨h,g,d,t,os⟩:L5).TypeIs ↥C "type":=#[_,hC,rfl]
 refine Jp (codeAny_of_tree ?_);show wpAny _ _ (callAny ↥C _) _ _ _
 repeat (any_goals (first|assumption|with_reducible refine Iz hC ?_|wp_step))
 show#[rfl,?_];exact codeAny_call_builtin_at (Code.quiet_builtin _ 0x4) entry_typeCall (wpAny_check_type_call_sub hC (BU hC V hz hi hb hq))
def x_raise {M:Model} {env:Env} {s:L5} {x:Sem K'} {Q:Flow->L5->Prop} (hh:A.handled=none)
   (hx:wpAny M A x (λv s₁=>∃e o vs,v=↥e/\s₁.heap.get? C=⇑(excClassObj nm q C N bs bm hdct sn sub ab col dd k0 k1 k2 k3 k5 "ValueError.__new__")/\VE C bm /\
     s₁.heap.get? e=⇑o/\o.cls=↥C/\o.data=.fields vs/\vs[1]?=some .none/\E ↥e s₁) E s):wpAny M A (raiseStmt env ⇑x none) Q E s:=by
 unfold raiseStmt;refine HR (Il hx (λv s₁ h₁=>?_) λ_ _ x=>x);let#[e,o,vs,rfl,hC,V,he,hc,hd,h1,hE]:=h₁;let#[hp,g,d,tk,os]:=s₁;let#[oc,od,oda,osl]:=o;dsimp only at hc hd;subst hc hd;have ve:=V.e
 repeat (first|with_reducible refine Iz he ?_|with_reducible refine Iz hC ?_|(with_reducible refine Jd hC ?_; rw[ve])|wp_step)
 rw[h1];refine Ha ?_;rw[HX #[]];exact Ha (wpAny_raiseNew_none hh hE)
end
end Ex
namespace Ex
open PySem PySem.W PyProof.Rows PySem.Spec L2
structure Mvd (S:List Addr) (D:Addr->Prop) (h h':Heap):Prop where
 keep:∀b o,¬ D b->b ∉ S->h.get? b=⇑o->h'.get? b=⇑o
 slot:∀b o,¬ D b->h.get? b=⇑o->∃sl,h'.get? b=some { o with slots:=sl }
def Mvd.trans {S:List L6} {D:L6->Prop} {h h1 h2:Heap} (a:Mvd S D h h1) (b:Mvd S D h1 h2):Mvd S D h h2 :=
 #[λc o n m e=>b.keep c o n m (a.keep c o n m e),λc o n e=>by let#[sl,e1]:=a.slot c o n e;let#[sl2,e2]:=b.slot c _ n e1;show#[sl2,e2]]
def Mvd.mono {S:List L6} {D D':L6->Prop} {h h':Heap} (a:Mvd S D h h') (hd:∀b,D b->D' b):Mvd S D' h h':=#[λb o n=>a.keep b o λz=>n (hd b z),λb o n=>a.slot b o λz=>n (hd b z)]
abbrev Tr (h:Heap) (e:L6) (cls:K') (d:Hl L6) (T:L6) (fl:K'):Prop :=
 ∃o vs oT ts,h.get? e=⇑o/\o.cls=cls/\o.dict=d/\o.data=.fields vs/\vs[1]?=⇑↥T/\T≠e/\h.get? T=⇑oT/\oT.data=.fields ts/\ts[3]?=⇑fl
abbrev Raw (h:Heap) (e:L6) (cls:K') (d:Hl L6):Prop:=∃o vs,h.get? e=⇑o/\o.cls=cls/\o.dict=d/\o.data=.fields vs/\vs[1]?=some .none
section
variable {M:Model} {A:Around} {E:K'->L5->Prop} {s:L5} {base:Heap} {env:Env} {outer:List Env} {L e:L6} {cls:K'} {d:Hl L6}
def vB (f:Array K'->Array K') {o:Obj} {vs:Array K'} (hd:o.data=.fields vs):Obj.mapFields f o={ o with data:=.fields (f vs) }:=by let#[c,d,dt,sl]:=o;dsimp only at hd;subst hd;rfl
def wK {oe:Obj} {vs:Array K'} {head:K'} {hadNext:Bool} {Q:Unit->L5->Prop} (hfr:A.frames=⇑(env::outer)) (hl:s.heap.FunFrames base (env::outer)) (hf:env.frame=⇑L)
   (he:s.heap.get? e=⇑oe) (hd:oe.data=.fields vs) (hsz:1<vs.size)
   (h:∀h' T,s.heap.get? T=none->Mvd (cE (env::outer)) (λb=>b=e) s.heap h'->Tr h' e oe.cls oe.dict T (rawInt L)->Q () { s with heap:=h' }) :
   wpAny M A (do let a <- frameOf env; let pl <- entryPlaceOf L hadNext; let b <- EntryCells.newEntry head a .none (rawInt L) .none pl; setField ↥e 1 b) Q E s:=by
 have hene:e ∉ cE (env::outer):=λhm=>by let#[_,o,ho,hnf]:=hl.mem hm;rw[he] at ho; cases ho; exact hnf vs hd
 refine HR (wpAny_frameOf_fun hfr hl hf λh₁ hs₁=>?_);refine HR (wpAny_entryPlaceOf λpl hpl=>?_);unfold EntryCells.newEntry newFields;refine HR (J1 ?_ (hpl.sizeOk5 _ _ _ _ _));have he₁:h₁.get? e=⇑oe:=(hs₁.2.1 e hene)\he;have he₂:=HW (h:=h₁) { cls:=.type "traceback",dict:=none,data:=.fields ([head,↥L,.none,rawInt L,.none]++(if pl.isEmpty then List.replicate 6 Value.none else pl)).toArray } he₁;refine Jz he₂ hd hsz (h _ h₁.objs.size (Jo (by rw[hs₁.1]; exact HY _)) ?_ ?_)
 . show#[λb o hb hm hbo=>?_,λb o hb hbo=>?_]
   . rw[Ip _ _ (Ne.symm hb)];exact HW _ ((hs₁.2.1 b hm)\hbo)
   . let#[sl,e1]:=hs₁.2.2 b o hbo;show#[sl,?_];rw[Ip _ _ (Ne.symm hb)];exact HW _ e1
 . have hTe:h₁.objs.size≠e:=JC (Hm he₁);have hd₃:=Obj.data_mapFields hd (·.setIfInBounds 1 (Value.ref h₁.objs.size));have he₃:=J8 (Obj.mapFields (·.setIfInBounds 1 (Value.ref h₁.objs.size))) he₂ (Obj.isFreed_of_fields hd₃);have hT₃:=(Ip (h₁.push { cls:=.type "traceback",dict:=none,data:=.fields ([head,↥L,.none,rawInt L,.none]++(if pl.isEmpty then List.replicate 6 Value.none else pl)).toArray })
     (Obj.mapFields (·.setIfInBounds 1 (Value.ref h₁.objs.size))) (Ne.symm hTe))\(Hs h₁ rfl)
   show#[16,he₃,?_,?_,hd₃,by simp [hsz],hTe,hT₃,rfl,by first|(simp; done)|(rcases hpl with rfl|⟨_,_,_,_,_,_,_,rfl⟩ <;> simp)]
   . rw[vB _ hd]
   . rw[vB _ hd]
def x_mark {T:L6} {fl:K'} {fr:Hl L6} {Q:Unit->L5->Prop} (ht:Tr s.heap e cls d T fl)
   (h:∀h',Mvd [] (λb=>b=T) s.heap h'->Tr h' e cls d T (fr.elim .none λf=>rawInt f)->Q () { s with heap:=h' }):wpAny M A (setFlight ↥e fr) Q E s:=by
 let#[o,vs,oT,ts,he,hc,hdc,hd,h1,hTe,hT,hdT,h3]:=ht;have hsz:3<ts.size:=(JW.mp h3).1;unfold setFlight;refine HR (IR he hd h1 ?_);rw[He (show(Value.ref T != Value.none)=true from by simp)];have other:∀(g:Obj->Obj) (b:L6),b≠T->(s.heap.update T g).get? b=s.heap.get? b:=λg b hb=>Ip _ _ (Ne.symm hb);refine Jz hT hdT hsz (h _ #[λb o hb _ hbo=>(other _ b hb)\hbo,λb o hb hbo=>#[o.slots,(other _ b hb)\hbo]] ?_);show#[o,vs,4,(other _ e (Ne.symm hTe))\he,hc,hdc,hd,h1,hTe,J8 _ hT (Obj.isFreed_of_fields (Obj.data_mapFields hdT _)),Obj.data_mapFields hdT _,by simp [hsz]]
def x_noteR {Q:Unit->L5->Prop} (hfr:A.frames=⇑(env::outer)) (hl:s.heap.FunFrames base (env::outer)) (hf:env.frame=⇑L) (hr:Raw s.heap e cls d)
   (h:∀h' T,s.heap.get? T=none->Mvd (cE (env::outer)) (λb=>b=e) s.heap h'->Tr h' e cls d T (rawInt L)->Q () { s with heap:=h' }):wpAny M A (noteFrame ↥e env) Q E s:=by
 let#[o,vs,he,rfl,rfl,hd,h1]:=hr;unfold noteFrame;simp only[hf];refine HR (IR he hd h1 ?_);rw[HX #[]];exact wK hfr hl hf he hd (JW.mp h1).1 h
def x_noteT {T0:L6} {Q:Unit->L5->Prop} (hfr:A.frames=⇑(env::outer)) (hl:s.heap.FunFrames base (env::outer)) (hf:env.frame=⇑L) (hr:Tr s.heap e cls d T0 .none)
   (h:∀h' T,s.heap.get? T=none->Mvd (cE (env::outer)) (λb=>b=e\/b=T0) s.heap h'->Tr h' e cls d T (rawInt L)->Q () { s with heap:=h' }):wpAny M A (noteFrame ↥e env) Q E s:=by
 let#[o,vs,oT,ts,he,rfl,rfl,hd,h1,hTe,hT,hdT,h3]:=hr;unfold noteFrame;simp only[hf];refine HR (IR he hd h1 ?_);rw[He (show(Value.ref T0 != Value.none)=true from by simp)];refine HR (IR hT hdT h3 ?_);rw[HX (show ¬ ((Value.none==rawInt L)=true) from by simp [rawInt])];refine HR (Jz hT hdT (JW.mp h3).1 ?_);have other:∀(g:Obj->Obj) (b:L6),b≠T0->(s.heap.update T0 g).get? b=s.heap.get? b:=λg b hb=>Ip _ _ (Ne.symm hb);have noT:∀b o,s.heap.get? b=⇑o->(∀vs,o.data≠.fields vs)->b≠T0:=λb o hb hnf q=>by rw[q,hT] at hb; cases hb; exact hnf ts hdT
 have m1:Mvd (cE (env::outer)) (λb=>b=e\/b=T0) s.heap (s.heap.update T0 (Obj.mapFields (·.setIfInBounds 3 Value.none))) :=
   #[λb o hb _ hbo=>(other _ b λz=>hb (.inr z))\hbo,λb o hb hbo=>#[o.slots,(other _ b λz=>hb (.inr z))\hbo]]
 have hl2:(s.heap.update T0 (Obj.mapFields (·.setIfInBounds 3 Value.none))).FunFrames base (env::outer):=hl.of_keeps λb o hb hnf=>#[o,(other _ b (noT b o hb hnf))\hb,rfl]
 refine wK (s:={ s with heap:=s.heap.update T0 (Obj.mapFields (·.setIfInBounds 3 Value.none)) }) hfr hl2 hf ((other _ e (Ne.symm hTe))\he) hd (JW.mp h1).1 λh' T hT' m2 tr=>h h' T ?_ (m1\(m2.mono λb z=>.inl z)) tr;by_cases z:T=T0
 . subst z;exfalso;have q:=J8 (Obj.mapFields (·.setIfInBounds 3 Value.none)) hT (Obj.isFreed_of_fields (Obj.data_mapFields hdT _));dsimp only at hT';rw[q] at hT'; cases hT'
 . dsimp only at hT';rwa [other _ T z] at hT'
end
end Ex
namespace L2
open PySem PySem.Spec PyProof.Rows
abbrev XO (e C:L6) (d:Hl L6):HO:=.ext λh=>∃t,h.get? e=some { cls:=↥C,dict:=d,data:=.fields (List.toArray [↥t,.none,.none,.none,.bool false,.none]) }
abbrev XC (e C:L6) (d:Hl L6):HO:=.ext λh=>∃o vs,h.get? e=⇑o/\o.cls=↥C/\o.dict=d/\o.data=.fields vs
abbrev sV (K:L7) (C:L6):Prop:=∃(nm q:Str) (N:L6) (bs bm:List K') (sn:List Str) (sub:List K') (ab:Bool) (col:Hl Bool) (dd:Hl L6) (k0 k1 k2 k3 k5:Hl K'),
 K.lookup C=⇑(excClassObj nm q C N bs bm true sn sub ab col dd k0 k1 k2 k3 k5 "ValueError.__new__")/\Ex.VE C bm
abbrev bv (P:Program) (w:World):di:=λouter H s E e s'=>∃ea cls d T H',e=↥ea/\s'.os=s.os/\AllBare s'.gens/\Un (cE outer) [] H H' s.heap s'.heap/\az P w H' s'.heap /\
 s.heap.get? ea=none/\H' ea=none/\s.heap.get? T=none/\H' T=none/\Ex.Tr s'.heap ea cls d T .none/\E cls d H'
section
variable {P:Program} {w:World} {H H':Hp} {h h':Heap} {a:L6} {o:HO} {fs S:List L6} {D:L6->Prop} {H0:Hp} {h0:Heap}
def bT.some_at (x:bT P w H h a o):∃u,h.get? a=⇑u:=by
 cases o with
 | lst xs=>let#[_,_,_,_,e]:=x; show#[_,e]
 | tup xs=>let#[_,_,_,ob,e,_]:=x; show#[_,e]
 | dK kvs=>let#[_,_,_,_,o,_,_,e,_]:=x; show#[_,e]
 | dT kvs=>let#[_,_,_,_,o,_,_,e,_]:=x; show#[_,e]
 | set S n=>let#[o,_,_,_,e,_]:=x; show#[_,e]
 | ins C dx fs=>let#[_,_,_,e,_]:=x; show#[_,e]
 | own y=>exact x
 | xd fs=>obtain⟨_,⟨_,_,_,e,_⟩,_⟩:=x; show#[_,e]
 | rng lo hi=>let#[_,_,_,e]:=x; show#[_,e]
 | frz ob u=>let#[e,_]:=x; show#[_,e]
 | tbl ps=>show#[_,(show h.get? a=⇑_ from x)]
 | met f y=>show#[_,(show h.get? a=⇑_ from x)]
 | ext φ=>exact x.2.1
def az.none_of (x:az P w H h) (e:h.get? a=none):H a=none:=by
 cases q:H a with
 | none=>rfl
 | some u=>let#[v,z]:=(x a u q).some_at; rw[e] at z; cases z
def Un.moved (u:Un fs [] H0 H h0 h) (m:Ex.Mvd S D h h') (hD:∀b,D b->h0.get? b=none) (hS:∀b∈S,b∈fs\/h0.get? b=none):Un fs [] H0 H h0 h' where
 keep:=λb o q n hb hx=>m.keep b o (λz=>by rw[hD b z] at q; cases q) (λz=>(hS b z).elim hb λr=>by rw[r] at q; cases q) (u.keep b o q n hb hx)
 slot:=λb o q n hb hx=>by let#[sl,e]:=u.slot b o q n hb hx;let#[sl2,e2]:=m.slot b _ (λz=>by rw[hD b z] at q; cases q) e;show#[sl2,e2]
 free:=u.free
 there:=λb o q hx=>by let#[o',e]:=u.there b o q hx;let#[sl2,e2]:=m.slot b _ (λz=>by rw[hD b z] at q; cases q) e;show#[_,e2]
 tups:=u.tups
 frzs:=u.frzs
 tbls:=u.tbls
def az.moved (x:az P w H h) (m:Ex.Mvd S D h h') (hD:∀b,D b->H b=none) (hS:∀b∈S,H b=none):az P w H h':=λa o e =>
 (x a o e).stay (λb u hb q=>by
   have t:∃z,H b=⇑z:=by
     rcases hb with rfl|hb
     . show#[_,e]
     . show#[_,hb]
   let#[z,t]:=t;exact m.keep b u (λy=>by rw[hD b y] at t; cases t) (λy=>by rw[hS b y] at t; cases t) q) (λ_ q=>q) λ_ _ q=>q
def Un.ers {φ:Heap->Prop} (u:Un fs [] H0 H h0 h) (e:H a=⇑(.ext φ)):Un fs [] H0 (ers a H) h0 h where
 keep:=u.keep
 slot:=u.slot
 free:=λb o q n hx=>by
   have r:=u.free b o q n hx;unfold L2.ers;split
   . rfl
   . exact r
 there:=u.there
 tups:=λb xs q=>by have r:=u.tups b xs q;rw[ak (λz=>by rw[z,e] at r; cases r)]; exact r
 frzs:=λb o xs q=>by have r:=u.frzs b o xs q;rw[ak (λz=>by rw[z,e] at r; cases r)]; exact r
 tbls:=λb ps q=>by let#[m,r]:=u.tbls b ps q;show#[m,by rw[ak (λz=>by rw[z,e] at r; cases r)]; exact r]
def az.ers {φ:Heap->Prop} (x:az P w H h) (e:H a=⇑(.ext φ)):az P w (ers a H) h:=λb o q=>by
 have hb:b≠a:=λz=>by subst z; unfold L2.ers at q; rw[He rfl] at q; cases q
 rw[ak hb] at q;exact(x b o q).stay (λc u _ r=>r) (λc r=>by rw[ak (λz=>by rw[z,e] at r; cases r)]; exact r) λc xs r=>by rw[ak (λz=>by rw[z,e] at r; cases r)]; exact r
end
def mz {S S':List L6} {D:L6->Prop} {h h':Heap} (m:Ex.Mvd S D h h') (hs:∀b∈S,b∈S'):Ex.Mvd S' D h h':=#[λb o n z=>m.keep b o n λq=>z (hs b q),m.slot]
section
variable {P:Program} {w:World} {K:L7} {mg:Str->Hl K'} {base:Heap} {N:List Str} {qual:Str} {sc:Scope} {f:L6} {cd:K'} {A:Around} {outer:List Env} {s0 s:L5} {H0 H:Hp} {E:XK}
 {pins:List (L6×Obj)} {σ:St} {cls:K'} {d:Hl L6} {e:L6}
def tQ {h2:Heap} {T:L6} {D:L6->Prop} {S:List L6} (I:Inv (cS (bv P w) P w K mg base N qual sc f cd A outer s0 H0 E) pins σ H s) {H1:Hp} (hn:s0.heap.get? e=none) (hT:s.heap.get? T=none)
   (u:Un (cE outer) [] H0 H1 s0.heap s.heap) (hok:az P w H1 s.heap) (he1:H1 e=none) (hS:S=cE (cS (bv P w) P w K mg base N qual sc f cd A outer s0 H0 E).stack) (hS1:∀b∈S,H1 b=none)
   (m:Ex.Mvd S D s.heap h2) (hD0:∀b,D b->s0.heap.get? b=none) (hD1:∀b,D b->H1 b=none)
   (t:Ex.Tr h2 e cls d T .none) (hE:E cls d H1):bv P w outer H0 s0 E ↥e { s with heap:=h2 }:=by
 have fresh:∀b,s.heap.get? b=none->s0.heap.get? b=none:=λb q=>by
   cases r:s0.heap.get? b with
   | none=>rfl
   | some o=>let#[o',z]:=u.there b o r 0x6; rw[q] at z; cases z
 show#[e,cls,d,T,H1,rfl,I.os,I.bare,u.moved m hD0 λb hb=>?_,hok.moved m hD1 hS1,hn,he1,fresh T hT,hok.none_of hT,t,hE];subst hS;rcases Hh.mp (I.stkSub b hb) with z|z
 . exact .inr (by rw[z]; exact Jo I.ok.above)
 . exact .inl z
def Ft (I:Inv (cS (bv P w) P w K mg base N qual sc f cd A outer s0 H0 E) pins σ H s) {φ:Heap->Prop} (he:H e=⇑(.ext φ)) (hn:s0.heap.get? e=none) (hr:Ex.Raw s.heap e cls d) (hE:E cls d (ers e H)) :
   (cS (bv P w) P w K mg base N qual sc f cd A outer s0 H0 E).xe ↥e s:=by
 show wpAny _ _ (leaving _ _) _ _ s;unfold leaving;refine HR (Ex.x_noteR I.ok.frames I.stack rfl hr λh1 T hT m1 t1=>?_);refine Ex.x_mark (fr:=none) t1 λh2 m2 t2=>?_;have hfr:=I.stkFree;have fresh:∀b,s.heap.get? b=none->s0.heap.get? b=none:=λb q=>by
   cases r:s0.heap.get? b with
   | none=>rfl
   | some o=>let#[o',z]:=I.base.there b o r (λq=>nomatch q); rw[q] at z; cases z
 refine tQ (s:=s) (D:=λb=>b=e\/b=T) (S:=cE (cS (bv P w) P w K mg base N qual sc f cd A outer s0 H0 E).stack) I hn hT (Un.ers I.base he) (az.ers I.hok he) (He rfl) rfl (λb hb=>?_) ((m1.mono λb z=>.inl z)\(mz (m2.mono λb z=>.inr z) λb z=>nomatch z)) ?_ ?_ t2 hE
 . unfold L2.ers; split; rfl; exact hfr b hb
 . rintro b (rfl|rfl); exact hn; exact fresh _ hT
 . rintro b (rfl|rfl)
   . exact He rfl
   . exact(az.ers I.hok he).none_of hT
def kA:fR (bv P w) (cS (bv P w) P w K mg base N qual sc f cd A outer s0 H0 E) E:=by
 intro pins σ H s ev s' I c;let#[e,cls,d,T0,H1,rfl,os,bare,un,hok,hn,he1,hT0,hT1,tr,hE]:=c;have I1:Inv (cS (bv P w) P w K mg base N qual sc f cd A outer s0 H0 E) pins σ H1 s':=I.call' os un hok bare λb z=>nomatch z;show wpAny _ _ (leaving _ _) _ _ s';unfold leaving;refine HR (Ex.x_noteT I1.ok.frames I1.stack rfl tr λh1 T hT m1 t1=>?_);refine Ex.x_mark (fr:=none) t1 λh2 m2 t2=>?_;have fr0:∀b,s.heap.get? b=none->s0.heap.get? b=none:=λb q=>by
   cases r:s0.heap.get? b with
   | none=>rfl
   | some o=>let#[o',z]:=I.base.there b o r (λq=>nomatch q); rw[q] at z; cases z
 have fr1:∀b,s'.heap.get? b=none->s0.heap.get? b=none:=λb q=>by
   cases r:s0.heap.get? b with
   | none=>rfl
   | some o=>let#[o',z]:=I1.base.there b o r (λq=>nomatch q); rw[q] at z; cases z
 refine tQ (s:=s') (D:=λb=>(b=e\/b=T0)\/b=T) (S:=cE (cS (bv P w) P w K mg base N qual sc f cd A outer s0 H0 E).stack) I1 (fr0 _ hn) hT I1.base I1.hok he1 rfl I1.stkFree ((m1.mono λb z=>.inl z)\(mz (m2.mono λb z=>.inr z) λb z=>nomatch z)) ?_ ?_ t2 hE
 . rintro b ((rfl|rfl)|rfl)
   . exact fr0 _ hn
   . exact fr0 _ hT0
   . exact fr1 _ hT
 . rintro b ((rfl|rfl)|rfl)
   . exact he1
   . exact hT1
   . exact I1.hok.none_of hT
def vK:PassesOwn (model P w) (cS (bv P w) P w K mg base N qual sc f cd A outer s0 H0 E).A (cS (bv P w) P w K mg base N qual sc f cd A outer s0 H0 E).env (cS (bv P w) P w K mg base N qual sc f cd A outer s0 H0 E).xe:=PassesOwn.leaving
end
abbrev qY (X:Cx) (EX:XK):Prop:=∀(pins:List (L6×Obj)) (σ:St) (H:Hp) (s:L5) (e:L6) (φ:Heap->Prop) (cls:K') (d:Hl L6),
 Inv X pins σ H s->H e=⇑(.ext φ)->X.s₀.heap.get? e=none->Ex.Raw s.heap e cls d->EX cls d (ers e H)->X.xe ↥e s
def oV {P:Program} {w:World} {K:L7} {mg:Str->Hl K'} {base:Heap} {N:List Str} {qual:Str} {sc:Scope} {f:L6} {cd:K'} {A:Around} {outer:List Env} {s0:L5} {H0:Hp} {E:XK} :
   qY (cS (bv P w) P w K mg base N qual sc f cd A outer s0 H0 E) E:=λ_ _ _ _ _ _ _ _ I he hn hr hE=>Ft I he hn hr hE
def FQ {P:Program} {w:World} {H:Hp} {h:Heap} {e C:L6} {d:Hl L6} {t:L6} (q:h.get? e=some { cls:=↥C,dict:=d,data:=.fields (List.toArray [↥t,.none,.none,.none,.bool false,.none]) }):bT P w H h e (XO e C d) :=
 #[#[t,q],#[_,q],λh1 h2 z155_ k=>by let#[u,z]:=z155_; show#[u,k _ z]]
def GV {P:Program} {w:World} {H:Hp} {h:Heap} {e C:L6} {d:Hl L6} {o:Obj} {vs:Array K'} (q:h.get? e=⇑o) (hc:o.cls=↥C) (hd:o.dict=d) (hf:o.data=.fields vs):bT P w H h e (XC e C d) :=
 #[#[o,vs,q,hc,hd,hf],#[_,q],λh1 h2 z156_ k=>by let#[o,vs,z,r]:=z156_; show#[o,vs,k _ z,r]]
end L2
namespace Ex
open PySem PySem.W PyProof.Rows PySem.Spec
section
variable {prog:Program} {w:World} {A:Around} {E:K'->L5->Prop} {R:Result->L5->Prop} {h:Heap} {g:Array GenState} {d:Drawn} {t:Nat} {os:OsState}
 {nm q:Str} {C N:L6} {bs bm:List K'} {hdct:Bool} {sn:List Str} {sub:List K'} {ab:Bool} {col:Hl Bool} {dd:Hl L6} {k0 k1 k2 k3 k5:Hl K'}
def x_init0 {e t0:L6} {Q:K'->L5->Prop} (hC:h.get? C=⇑(excClassObj nm q C N bs bm hdct sn sub ab col dd k0 k1 k2 k3 k5 "ValueError.__new__")) (V:VE C bm)
   (he:h.get? e=some { cls:=↥C,data:=.fields (List.toArray [↥t0,.none,.none,.none,.bool false,.none]) })
   (hq:∀h' t',(∀b o,b≠e->h.get? b=⇑o->h'.get? b=⇑o)->h'.get? e=some { cls:=↥C,data:=.fields (List.toArray [↥t',.none,.none,.none,.bool false,.none]) }->Q .none #[h',g,d,t,os]) :
   wpAny 0x3 A (call (.builtin "ValueError.__init__") [↥e]) Q E #[h,g,d,t,os]:=by
 have F:=J4;have vb:=V.b;have st:=F.noStar;refine Jp (codeAny_call_builtin F.init.plain F.initEntry ?_);simp only[checkBuiltinCall,F.initKind,F.initSplit,F.initRow]
 repeat (first|with_reducible refine Iz he ?_|with_reducible refine Iz hC ?_|(with_reducible refine Jd hC ?_; rw[vb])|wp_step)
 show Q _ _;refine hq _ h.objs.size (λb o hb hbo=>?_) ?_
 . rw[Ip _ _ (Ne.symm hb)];exact HW _ hbo
 . rw[J8 _ (HW _ he) rfl];rfl
end
end Ex
namespace L2
open PySem PySem.Spec PyProof.Rows
abbrev sv (C:L6) (EX:XK):TS:=λ_ _ H=>EX ↥C none H
section
variable {X:Cx} {C:L6} {EX:XK} {x:Str} {p pos cpos:Pos}
def DY (hX:sV X.K C) (hm:X.mg x=⇑↥C) (hi:PySem.W.findIn X.K ↥C "__init__"=⇑⇑(.builtin "ValueError.__init__")) (hk:PySem.W.keepIn X.K ↥C=true)
   (hc:X.calm=true) (hx:qY X EX) (hg:Gl X x:=by rfl) (hdb:(x==("__debug__":Str))=false:=by decide) :
   PS X (.Raise ⇑(.Call (.Name x p) [] [] cpos) none pos) (sv C EX):=by
 intro pins s σ H D I h;let#[nm,q,N,bs,bm,sn,sub,ab,col,dd,k0,k1,k2,k3,k5,hl,VV]:=hX;rw[arm_exec_Raise];refine HR (Jr (Ex.x_raise (C:=C) (nm:=nm) (q:=q) (N:=N) (bs:=bs) (bm:=bm) (hdct:=true) (sn:=sn) (sub:=sub) (ab:=ab) (col:=col) (dd:=dd) (k0:=k0) (k1:=k1) (k2:=k2) (k3:=k3) (k5:=k5) (I.ok.hd hc) ?_));show wpAny _ _ (eval (.Call (.Name x p) [] [] cpos) X.env >>= λv=>standAt pos >>= λ_=>pure v) _ _ _;refine HR (Il (Q:=λv s₁=>∃e o vs,v=↥e/\s₁.heap.get? C=⇑(excClassObj nm q C N bs bm true sn sub ab col dd k0 k1 k2 k3 k5 "ValueError.__new__")/\Ex.VE C bm /\
     s₁.heap.get? e=⇑o/\o.cls=↥C/\o.data=.fields vs/\vs[1]?=some .none/\X.xe ↥e s₁) ?_ (λv s3 h3=>HR (Jr (Ha h3))) λ_ _ z=>z)
 refine JM (kz I hg hm ?_ hdb);refine PySem.W.callWith_K0 I.kIn hk ?_;let#[hp,g,dr,tk,os]:=s;refine Ex.x_call (fI:=.builtin "ValueError.__init__") (rest:=[]) (I.kIn _ _ hl) VV #[] (PySem.W.looks_findIn I.kIn hi) (PySem.W.Looks.of_pure (J4.init.bind _)) ?_;have hC2:=Ex.heapX_keeps (C:=C) (rest:=[]) _ _ (I.kIn _ _ hl);refine Ex.x_init0 hC2 VV Ex.heapX_at λh' t' hk' he'=>#[rfl,?_]
 have ne:∀b o,hp.get? b=⇑o->b≠hp.objs.size+1:=λb o z=>IG (Nat.lt_succ_of_lt (Hm z));have I2:Inv X pins σ (upd H (hp.objs.size+1) (XO (hp.objs.size+1) C none)) ⟨h',g,dr,tk,os⟩ :=
   I.laid (h':=h') (t':=tk) (λb u z=>hk' b u (ne b u z) (Ex.heapX_keeps b u z)) (Ja _) (FQ he')
 have eH:ers (hp.objs.size+1) (upd H (hp.objs.size+1) (XO (hp.objs.size+1) C none))=H:=by
   funext b;unfold L2.ers upd;by_cases z:b=hp.objs.size+1
   . rw[He z,z]; exact(I.hok.fresh (Ja _)).symm
   . rw[HX z,HX z]
 show#[17,I2.kIn _ _ hl,VV,he',15,hx pins σ _ #[h',g,dr,tk,os] (hp.objs.size+1) _ ↥C none I2 aH (Jo (Hu I.sz (Ja _))) #[4,he',31] (by rw[eH]; exact h)]
end
end L2
namespace Ex
open PySem PySem.W PyProof.Rows PySem.Spec
abbrev veTail:List K'->Bool
 | .ref _::r=>veTail r
 | l=>l==[.type "ValueError",.type "Exception",.type "BaseException",.type "object"]
def sI {p:List K'->Prop} (h0:p [.type "ValueError",.type "Exception",.type "BaseException",.type "object"]) (h1:∀a r,p r->p (↥a::r)):∀{l:List K'},veTail l=true->p l
 | [],e=>by cases e
 | c::r,e=>by
   cases c with
   | ref a=>exact h1 a r (sI h0 h1 e)
   | _=>rw[show _::r=_ from beq_iff_eq.mp e]; exact h0
def veTail_has {l:List K'} (h:veTail l=true) {X:String} {b:Bool} (hb:([.type "ValueError",.type "Exception",.type "BaseException",.type "object"]:List K').contains (.type X)=b):l.contains (.type X)=b :=
 sI (p:=λl=>l.contains (.type X)=b) hb (λa r z=>by rw[List.contains_cons,z]; rfl) h
def VE.of {C:L6} {bm:List K'} (h:veTail bm=true):VE C bm:=by have h':veTail (↥C::bm)=true:=h;show#[veTail_has h' 0x4,veTail_has h' 0x4,veTail_has h' 0x4,veTail_has h' 0x4]
end Ex
namespace L2
open PySem PySem.Spec PyProof.Rows
structure XClsOk (K:W.Frag) (mg:Str->Option Value) (name:Str) (C:Addr):Prop where
 g:mg name=⇑↥C
 obj:∃(nm q:Str) (N:Addr) (bs bm:List Value) (sn:List Str) (sub:List Value) (ab:Bool) (col:Option Bool) (dd:Option Addr) (k0 k1 k2 k3 k5:Option Value),
   K.lookup C=⇑(excClassObj nm q C N bs bm true sn sub ab col dd k0 k1 k2 k3 k5 "ValueError.__new__")/\Ex.veTail bm=true
 kp:PySem.W.keepIn K ↥C=true
 sa:PySem.W.findIn K ↥C "__setattr__"=⇑⇑(.builtin "object.__setattr__")
 ga:PySem.W.findIn K ↥C "__getattribute__"=⇑⇑(.builtin "BaseException.__getattribute__")
 gt:PySem.W.findIn K ↥C "__getattr__"=⇑none
 cl:PySem.W.findIn K ↥C "__class__"=⇑⇑(.builtin "object.__class__")
 sg:PySem.W.specialIn K (.builtin "object.__class__") "__get__"=⇑⇑(.builtin "getset_descriptor.__get__")
 tk:PySem.W.takesIn K (.builtin "object.__class__")=⇑true
variable {name:Str}
def XClsOk.cls {K:L7} {mg:Str->Hl K'} {C:L6} (c:XClsOk K mg name C):sV K C:=by let#[nm,q,N,bs,bm,sn,sub,ab,col,dd,k0,k1,k2,k3,k5,l,v]:=c.obj;show#[nm,q,N,bs,bm,sn,sub,ab,col,dd,k0,k1,k2,k3,k5,l,Ex.VE.of v]
def XClsOk.cd {K:L7} {mg:Str->Hl K'} {C:L6} (c:XClsOk K mg name C):∃cd,PySem.W.clsIn K C=⇑cd/\Ex.veTail cd.mro=true/\cd.hasDict=true/\∃bm,cd.mro=↥C::bm:=by let#[nm,q,N,bs,bm,sn,sub,ab,col,dd,k0,k1,k2,k3,k5,l,v]:=c.obj;show#[_,by unfold PySem.W.clsIn; rw[l],v,13]
def XClsOk.mro {K:L7} {mg:Str->Hl K'} {C:L6} (c:XClsOk K mg name C) {X:String} {b:Bool} (hb:([.type "ValueError",.type "Exception",.type "BaseException",.type "object"]:List K').contains (.type X)=b):PySem.W.mroIn K C (.type X)=⇑b:=by let#[cd,hcd,hv,_,bm,hm]:=c.cd;unfold PySem.W.mroIn;rw[hcd,Jc,HX (by rw[hm]; exact Ho),Ex.veTail_has hv hb]
end L2
namespace Ex
open PySem PySem.W PyProof.Rows PySem.Spec
section
variable {prog:Program} {w:World} {A:Around} {E:K'->L5->Prop} {K:Frag} {x C:L6} {ox:Obj} {od:Hl Obj} {h:Heap} {g:Array GenState} {d:Drawn} {t:Nat} {os:OsState}
def HI {tk:Tok} {R:Result->L5->Prop} (X:K.In h) (I:InstAt h x ox C od) (hb:mroIn K C (.type "BaseException")=⇑true) (ho:mroIn K C (.type "object")=⇑true)
   (hf:findObj K C od "__class__"=⇑(.bind (.builtin "getset_descriptor.__get__") (.builtin "object.__class__"))) (hq:R (.ok (.ret ↥C)) #[h,g,d,t,os]) :
   codeAny 0x3 A (.call (.builtin "BaseException.__getattribute__") #[[↥x,.str "__class__" tk],[]]) R #[h,g,d,t,os]:=by
 have hk:builtinKind "BaseException.__getattribute__"=some .slot:=by decide +kernel
 have hsp:splitId "BaseException.__getattribute__"=⇑("BaseException","__getattribute__"):=by decide +kernel
 have sub:Looks 0x3 h (isInstance ↥x (.type "BaseException")) true:=I.type.andThen (looks_mroIn X hb);have L0:=I.type (M:=model prog w);have L1:=looks_find (M:=model prog w) X I hf;refine codeAny_call_builtin KY.ga.plain PySem.F.entry_bexc_ga (@check_slot 0x3 _ _ #[h,g,d,t,os] "BaseException.__getattribute__" "BaseException" "__getattribute__" ↥x [.str "__class__" tk] [] _ hk hsp sub (PySem.F.args_bexc_ga ↥x (.str "__class__" tk)) ?_);unfold Builtin.«object.__getattribute__»;refine HR (Ha ?_);refine HR (Ha ?_);refine HR (L0.at ?_);refine HR (L1.at ?_);show wpAny _ _ (holding [.builtin "object.__class__"] (call (.builtin "getset_descriptor.__get__") [.builtin "object.__class__",↥x,↥C]) >>= ret) _ _ _;exact HR (IW (Jp (class_get (ox:=ox) (od:=od) X I ho (Ha hq))))
def xc_attr {Q:Hl K'->L5->Prop} (X:K.In h) (I:InstAt h x ox C od) (hb:mroIn K C (.type "BaseException")=⇑true) (ho:mroIn K C (.type "object")=⇑true)
   (hga:findIn K ↥C "__getattribute__"=⇑⇑(.builtin "BaseException.__getattribute__")) (hgt:findIn K ↥C "__getattr__"=⇑none)
   (hf:findObj K C od "__class__"=⇑(.bind (.builtin "getset_descriptor.__get__") (.builtin "object.__class__"))) (hq:Q ⇑↥C #[h,g,d,t+1,os]):wpAny 0x3 A (getAttr? ↥x "__class__") Q E #[h,g,d,t,os]:=by
 have L0:=I.type (M:=model prog w);have L1:=looks_findIn (M:=model prog w) X hga;have L2:=looks_findIn (M:=model prog w) X hgt;have f3:=KY.ga.bind ↥x;have hx0:(false&&onTheHeap (Value.builtin "BaseException.__getattribute__"))=false:=rfl;have hx2:(Value.builtin "BaseException.__getattribute__"==Value.builtin "object.__getattribute__")=false:=by decide +kernel
 have hx1:(onTheHeap (Value.ref C)&&Value.builtin "BaseException.__getattribute__"==Value.builtin "object.__getattribute__")=false:=by rw[hx2]; rfl
 unfold getAttr? getAttrBy? getAttrBy;refine HR (wpAny_mkText (HR (K7 (IW (HR (L0.at (HR (L1.at ?_))))))))
 repeat (any_goals (first|assumption|with_reducible refine L0.at ?_|with_reducible refine L1.at ?_|with_reducible refine L2.at ?_|wp_step))
 refine HI X I hb ho hf ?_;show wpAny _ _ (handedOut ↥C) _ _ _;exact Ha (Ha hq)
end
end Ex
namespace L2
open PySem PySem.Spec PyProof.Rows
abbrev mD (x C:L6) (h:Heap):Prop:=∃o vs,h.get? x=⇑o/\o.cls=↥C/\o.data=.fields vs/\(o.dict=none\/∃dx od,o.dict=⇑dx/\h.get? dx=⇑od)
def mD.inst {x C:L6} {h:Heap} (p:mD x C h):∃ox od,PySem.W.InstAt h x ox C od:=by
 obtain⟨o,vs,ho,hc,hd,z|⟨dx,od,z,q⟩⟩:=p
 . show#[o,none,ho,hc,by unfold PySem.W.notCls; rw[hd],by rw[z]; trivial]
 . show#[o,⇑od,ho,hc,by unfold PySem.W.notCls; rw[hd],by rw[z]; exact q]
def C5 {K:L7} {mg:Str->Hl K'} {nm:Str} {x C:L6} (c:XClsOk K mg nm C):PySem.W.KitX K ↥x ↥C (mD x C) where
 ty:=λM h _ p=>by let#[ox,od,I]:=p.inst; exact I.type
 it:=λM h X _=>by let#[nm,q,N,bs,bm,sn,sub,ab,col,dd,k0,k1,k2,k3,k5,l,v]:=c.obj;intro A' Q' E' s' k q;unfold isType loadHead;exact HR (Kv (k _ _ (X _ _ l)) (Ha q))
 ne:=λh tp dd its n sl X htp=>by let#[nm,q,N,bs,bm,sn,sub,ab,col,dd',k0,k1,k2,k3,k5,l,v]:=c.obj;refine Bool.eq_false_iff.mpr λq=>?_;have e:C=tp:=Value.ref.inj (beq_iff_eq.mp q);subst e;have z:=Hr Obj.cls (Option.some.inj ((X _ _ l).symm.trans htp));exact absurd (Value.type.inj z) #[]
 ca:=λ{prog w A E Q s} X p hq=>by
   let#[ox,od,I]:=p.inst;let#[cd,hcd,_]:=c.cd;have hf:PySem.W.findObj K C od "__class__"=⇑(.bind (.builtin "getset_descriptor.__get__") (.builtin "object.__class__")):=by unfold PySem.W.findObj;rw[hcd,Jc,c.cl,Jc];simp [c.sg,c.tk]
   let#[hp,g,dr,tk,os]:=s;exact Ex.xc_attr X I (c.mro 0x4) (c.mro 0x4) c.ga c.gt hf hq
abbrev iy (K:L7) (mg:Str->Hl K'):List V->Hp->VK->Prop:=λxs H Q=>∃a C d nm y u b,xs=[↥a,y]/\H a=⇑(XC a C d)/\(∀dx,d=⇑dx->∃o,H dx=⇑o)/\XClsOk K mg nm C/\aX y u/\PySem.W.kitOne K ↥C u=⇑b/\Q (.bl b) H
section
variable {X:Cx}
def zV {pins:List (L6×Obj)} {σ:St} {H:Hp} {s:L5} {a C:L6} {d:Hl L6} (I:Inv X pins σ H s) (e:H a=⇑(XC a C d)) (hd:∀dx,d=⇑dx->∃o,H dx=⇑o):mD a C s.heap:=by
 let#[o,vs,ho,hc,hdd,hf]:=(I.hok _ _ e).1;show#[o,vs,ho,hc,hf,?_];cases d with
 | none=>exact .inl hdd
 | some dx =>
   let#[z,q]:=hd dx rfl;let#[u,r]:=(I.hok _ _ q).some_at;exact .inr #[dx,u,hdd,r]
def jx:ao X (.builtin "isinstance") (iy X.K X.mg):=by
 intro pins s σ H xs us Q I r h;let#[a,C,d,nm,y,u,b,rfl,e,hd,c,ry,hk,q]:=h;let#[v,w',rfl,rx,rc]:=oW r;cases (show v=Value.ref a from rx);have hw:PySem.W.kitOne X.K ↥C w'=⇑b:=by
   cases y with
   | ref z=>cases (show w'=Value.ref z from rc); cases (show u=Value.ref z from ry); exact hk
   | ty z=>cases (show w'=Value.type z from rc); cases (show u=Value.type z from ry); exact hk
   | non=>cases (show w'=Value.none from rc); cases (show u=Value.none from ry); exact hk
   | bl z=>cases (show w'=Value.bool z from rc); cases (show u=Value.bool z from ry); exact hk
   | int z=>let#[t,rfl]:=ry; cases hk
   | str z=>let#[t,rfl]:=ry; cases hk
   | byt z=>let#[t,rfl]:=ry; cases hk
   | flt z=>let#[t,rfl]:=ry; cases hk
 exact PySem.W.kia_one (C5 c) I.kIn (zV I e hd) hw (λz=>nomatch z) λtk=>#[.bl b,H,I.tok _,rfl,q]
end
end L2
namespace Ex
open PySem PySem.W PyProof.Rows PySem.Spec
def x_match {M:Model} {A:Around} {E:K'->L5->Prop} {s:L5} {K:Frag} {e C G:L6} {Q:Bool->L5->Prop} (X:K.In s.heap) (ht:Looks M s.heap (typeOf ↥e) ↥C) (hG:typeIn K ↥G=⇑(.type "type"))
   (hi:Looks M s.heap (isType ↥G) true) (hb:mroIn K G (.type "BaseException")=⇑true) (hs:mroIn K C ↥G=⇑true) (h:Q true s):wpAny M A (excMatches ↥e ↥G) Q E s:=by
 let#[hp,g,d,tk,os]:=s;have L0:=looks_typeIn (M:=M) X hG;have L1:=looks_mroIn (M:=M) X hb;have L2:=looks_mroIn (M:=M) X hs;have f:=tc_notTuple;unfold excMatches isExcClass isInstance;refine HR (HR (L0.at ?_));rw[f];refine Ha ?_;simp only[JA,if_false];refine HR (Ha ?_);simp only[KE,Kx];refine HR (HR (HR (HR (hi.at ?_))));simp only[if_true];refine L1.at ?_;simp only[Bool.not_true,JA,if_false];refine Ha (Ha (HR (ht.at ?_)));refine HR (HR (HR (L2.at ?_)));simp only[if_true];exact Ha (Ha (Ha h))
end Ex
namespace L2
open PySem PySem.Spec PyProof.Rows
noncomputable abbrev TX:=St->Hp->VK->XK->Prop
abbrev PX (X:Cx) (e:Expr) (t:TX):Prop:=∀(pins:List (L6×Obj)) (s:L5) (σ:St) (H:Hp) (Q:VK) (E:XK),Inv X pins σ H s->t σ H Q E ->
 wpAny 0x2 X.A (eval e X.env) (EP X pins σ Q) (λev s'=>∃H1 s1,Inv X pins σ H1 s1/\bv X.prog X.w X.stack H1 s1 E ev s') s
abbrev lA (X:Cx) (st:Stmt) (t:bn->XK->St->Hp->Prop):Prop:=∀(pins:List (L6×Obj)) (s:L5) (σ:St) (H:Hp) (D:bn) (E:XK),Inv X pins σ H s->t D E σ H ->
 wpAny 0x2 X.A (exec st X.env) (SP X pins D) (λev s'=>∃H1 s1,Inv X pins σ H1 s1/\bv X.prog X.w X.stack H1 s1 E ev s') s
section
variable {X:Cx} {k:Nat} {f:L6} {fd:FuncData} {ps:List Str} {sp:Sp} {x:Str} {st:Stmt} {p pos:Pos} {e:Expr} {es:List Expr} {t:TA} {tx:TX}
def kf (he:PX X e tx) (hs:swapsWith e none pos.line X.env=pure false:=by rfl):lA X (.Expr e pos) (λD E σ H=>tx σ H (λ_ H'=>D.nx σ H') E):=by intro pins s σ H D E I h;exact wpAny_Expr_any (Il (he pins s σ H _ E I h) (λv s1 z164_=>by let#[x,H1,I1,r1,q1]:=z164_; show#[σ,H1,I1,q1]) λ_ _ z=>z) I.quiet hs
end
noncomputable abbrev Cx.hdl (X:Cx) (ea:L6):Cx:={ X with A:=X.A.mark ⇑↥ea,calm:=false }
variable {X:Cx} {H:Hp}
def Inv.hdl {pins:List (L6×Obj)} {σ:St} {s:L5} (I:Inv X pins σ H s) (ea:L6):Inv (X.hdl ea) pins σ H s :=
 #[#[I.ok.mod,I.ok.kind,I.ok.glob,I.ok.blt,I.ok.above,I.ok.inj,I.ok.has,I.ok.cab,λz=>Bool.noConfusion z,I.ok.frames,I.ok.stk,I.ok.exf,I.ok.bs,I.ok.bsz,I.ok.noex,I.ok.exfs,I.ok.funs,I.ok.frf],I.os,I.bare,I.base,I.loc,I.cell,I.free,I.freeC,I.pin,I.hok,I.len]
def Inv.unhdl {pins:List (L6×Obj)} {σ:St} {s:L5} {ea:L6} {E:K'->L5->Prop} (ok:X.Ok) (I:Inv ((X.hdl ea).wish E) pins σ H s):Inv X pins σ H s :=
 #[ok,I.os,I.bare,I.base,I.loc,I.cell,I.free,I.freeC,I.pin,I.hok,I.len]
def Inv.dropped {pins:List (L6×Obj)} {σ:St} {s:L5} {j:Nat} {n:Str} {m:Str->Hl K'} {h':Heap} {v:Hl K'} {t':Nat} (I:Inv X pins σ H s) (hN:X.N.Nodup) (hj:X.N[j]?=⇑n) (hk:X.env.kindOf n=some .local)
   (hm:∀(i:Nat) (x:Str) (v:V),X.N[i]?=⇑x->σ[i]?=⇑⇑v->ky X.env.scope x->∃u,aX v u/\wj X.env s.heap m x u) (hn0:s.heap.Ns X.env.locals m)
   (hn:h'.Ns X.env.locals (λx=>if x=n then v else m x)) (hs:Heap.SameBut X.env.locals s.heap h'):Inv X pins (σ.set j none) H { s with heap:=h',toks:=t' }:=by
 have cne:=I.cne;have lt:∀b o,X.s₀.heap.get? b=⇑o->b≠X.env.locals:=λb o e=>IG (IB (Hm e) I.ok.above);let#[oL,_,_,hoL,_]:=id hn0;show#[I.ok,I.os,I.bare,#[λb o e n hb hx=>(hs.2 b (lt b o e))\(I.base.keep b o e n hb hx),λb o e n hb hx=>?_,I.base.free,λb o e hx=>?_,I.base.tups,I.base.frzs,I.base.tbls],
   #[_,hn,λi y w e1 e2 e3=>?_],λy c e=>?_,I.free,I.freeC,λp hp=>?_,λb ob e=>?_,by rw[Je]; exact I.len]
 . let#[sl,e1]:=I.base.slot b o e n hb hx;show#[sl,(hs.2 b (lt b o e))\e1]
 . let#[o',e1]:=I.base.there b o e hx;show#[o',(hs.2 b (lt b o e))\e1]
 . have hij:j≠i:=λz=>by
     subst z;by_cases q:j<σ.length
     . rw[Jh q] at e2; cases e2
     . rw[Jm (by rw[Je]; lia)] at e2; cases e2
   rw[JB hij] at e2;let#[u,r,q]:=hm i y w e1 e2 e3;show#[u,r,?_];rcases q with⟨k,e⟩|⟨k,c,e,z⟩
   . have:y≠n:=λz=>hij (qS hN hj (z ▸ e1));exact .inl #[k,by show(if y=n then v else m y)=⇑u; rw[HX this]; exact e]
   . exact .inr #[k,c,e,z.sameBut hs (cne y c e)]
 . let#[w',z]:=I.cell y c e;show#[w',z.sameBut hs (cne y c e)]
 . let#[e,n,ne,nf,d]:=I.pin p hp;show#[(hs.2 p.1 ne)\e,n,ne,nf,d]
 . refine(I.hok b ob e).stay (λc w' hc q=>(hs.2 c ?_)\q) (λ_ q=>q) λ_ _ q=>q;rintro rfl;rcases hc with rfl|hc
   . rw[I.free] at e; cases e
   . rw[I.free] at hc; cases hc
def Un.track {fs:List L6} {H0:Hp}{h0 h:Heap} {a:L6} {o:HO} (u:Un fs [] H0 H h0 h) (n:h0.get? a=none) (e:H a=none):Un fs [] H0 (upd H a o) h0 h where
 keep:=u.keep
 slot:=u.slot
 free:=λb ob q z hx=>by rw[aM (λy=>by rw[y,n] at q; cases q)]; exact u.free b ob q z hx
 there:=u.there
 tups:=λb xs q=>by have r:=u.tups b xs q;rw[aM (cP r e)]; exact r
 frzs:=λb ob xs q=>by have r:=u.frzs b ob xs q;rw[aM (cP r e)]; exact r
 tbls:=λb ps q=>by let#[m,r]:=u.tbls b ps q;show#[m,by rw[aM (cP r e)]; exact r]
def az.track {P:Program} {w:World} {h:Heap} {a:L6} {o:HO} (x:az P w H h) (e:H a=none) (k:bT P w (upd H a o) h a o):az P w (upd H a o) h:=λb u q=>by
 by_cases hb:b=a
 . subst hb; rw[aH] at q; cases q; exact k
 . rw[aM hb] at q;exact(x b u q).stay (λc v _ r=>r) (λc r=>by rw[aM (cP r e)]; exact r) λc xs r=>by rw[aM (cP r e)]; exact r
abbrev F' (K:L7) (mg:Str->Hl K') (G:L6) (j:Nat) (tb:bn->XK->St->Hp->Prop) (th:TS):TS:=λD σ H=>tb D (λcls d H'=>∃C nm,cls=↥C/\XClsOk K mg nm C/\PySem.W.mroIn K C ↥G=⇑true /\
 ∀ea,H' ea=none->th { nx:=λσ' H2=>D.nx (σ'.set j none) H2,rt:=D.rt,bk:=λσ' H2=>D.bk (σ'.set j none) H2,ct:=λσ' H2=>D.ct (σ'.set j none) H2 } (σ.set j ⇑↥ea) (upd H' ea (XC ea C d))) σ H
section
variable {X:Cx} {st b0:Stmt} {suite:List Stmt} {tb:bn->XK->St->Hp->Prop} {th:TS} {G:L6} {j:Nat} {c n:Str} {cp hp pos:Pos}
def sy (hN:X.N.Nodup) (hj:X.N[j]?=⇑n) (hk:X.env.scope.names.lookup n=some .local) (hG:XClsOk X.K X.mg c G) (hst:X.stack=X.env::X.outer) (hfr:X.env.frame=⇑X.env.locals)
   (hb:lA X st tb) (hh:∀ea,aO (X.hdl ea).nox (b0::suite) th) (hg:Gl X c:=by rfl) (hdb:(c==("__debug__":Str))=false:=by decide) :
   PS X (.Try [st] [.ExceptHandler ⇑(.Name c cp) ⇑n (b0::suite) hp] [] [] pos) (F' X.K X.mg G j tb th):=by
 intro pins s σ H D I h;refine wpAny_Try_except (Jb (Il (hb pins s σ H D _ I h) (λf s1 q=>?_) λev s1 q=>?_))
 . cases f with
   | next=>exact JO (JO q)
   | ret v=>exact q
   | brk=>exact q
   | cont=>exact q
 let#[H1,s2,I1,ea,cls,d,T0,H',rfl,os,bare,un,hok,hn,he1,hT0,hT1,tr,C,nm,rfl,hC,hsub,hth]:=q;have I2:Inv X pins σ H' s1:=I1.call' os un hok bare λb z=>nomatch z;have hframes:X.A.frames=⇑(X.env::X.outer):=by rw[<- hst]; exact I.ok.frames
 have hfun:s1.heap.FunFrames X.base (X.env::X.outer):=by rw[<- hst]; exact I2.stack
 have hS1:∀b∈cE (X.env::X.outer),H' b=none:=by rw[<- hst]; exact I2.stkFree
 -- the state with a heap that moved
 have mv:∀(h':Heap) (D':L6->Prop) (g:Array GenState) (dr:Drawn) (tk:Nat),Ex.Mvd (cE (X.env::X.outer)) D' s1.heap h'->(∀b,D' b->s2.heap.get? b=none)->(∀b,D' b->H' b=none)->AllBare g ->
     Inv X pins σ H' #[h',g,dr,tk,s1.os]:=λh' D' g dr tk m h1 h2 h3=>by
   refine I1.call' (s':=#[h',g,dr,tk,s1.os]) os (Un.moved un m h1 λb hb=>.inl ?_) (az.moved hok m h2 hS1) h3 λb z=>nomatch z;rw[hst]; exact hb
 refine Ex.x_noteT hframes hfun hfr tr λh3 T hT m3 t3=>?_;refine Ex.x_mark (fr:=none) t3 λh4 m4 t4=>?_;have fr2:∀b,s1.heap.get? b=none->s2.heap.get? b=none:=λb q=>by
   cases r:s2.heap.get? b with
   | none=>rfl
   | some o=>let#[o',z]:=un.there b o r 0x6; rw[q] at z; cases z
 have D1:∀b,((b=ea\/b=T0)\/b=T)->s2.heap.get? b=none:=by
   rintro b ((rfl|rfl)|rfl)
   . exact hn
   . exact hT0
   . exact fr2 _ hT
 have D2:∀b,((b=ea\/b=T0)\/b=T)->H' b=none:=by
   rintro b ((rfl|rfl)|rfl)
   . exact he1
   . exact hT1
   . exact hok.none_of hT
 have M4:Ex.Mvd (cE (X.env::X.outer)) (λb=>(b=ea\/b=T0)\/b=T) s1.heap h4:=(m3.mono λb z=>.inl z)\(mz (m4.mono λb z=>.inr z) λb z=>nomatch z);have I4:Inv X pins σ H' { s1 with heap:=h4 }:=mv h4 _ s1.gens s1.drawn s1.toks M4 D1 D2 bare;have Ih:=I4.hdl ea;let#[cdG,hcG,hvG,_,bmG,hmG]:=hG.cd;let#[nmG,qG,NG,bsG,bm',snG,subG,abG,colG,ddG,k0,k1,k2,k3,k5,lG,vG]:=hG.obj;refine wpAny_handleBy_cons (codeAny_handlers_test (A:=X.A.mark ⇑↥ea) (kz Ih hg hG.g ?_ hdb)) (by intro q; cases q);have ty:PySem.W.typeIn X.K ↥G=⇑(.type "type"):=by show(List.lookup G X.K).map (·.cls)=_; rw[lG]; rfl
 let#[oe,vs,oT,ts,q1,q2,q3,q4,q5,q6,q7,q8,q9]:=id t4;have Lt:PySem.W.Looks 0x2 h4 (typeOf ↥ea) ↥C:=q2 ▸ (PySem.W.Looks.ld q1).andThen .now;have Li:PySem.W.Looks 0x2 h4 (isType ↥G) true:=by intro A' Q' E' s' k q;unfold isType loadHead;exact HR (Kv (k _ _ (I4.kIn _ _ lG)) (Ha q))
 refine Ex.x_match (s:={ s1 with heap:=h4 }) I4.kIn Lt ty Li (hG.mro 0x4) hsub ?_;dsimp only;refine codeAny_handlers_suite_as ?_;refine Ex.x_mark (s:={ s1 with heap:=h4 }) (fr:=none) t4 λh5 m5 t5=>?_;have M5:Ex.Mvd (cE (X.env::X.outer)) (λb=>(b=ea\/b=T0)\/b=T) s1.heap h5:=M4.trans (mz (m5.mono λb z=>.inr z) λb z=>nomatch z);have I5:Inv X pins σ H' { s1 with heap:=h5 }:=mv h5 _ s1.gens s1.drawn s1.toks M5 D1 D2 bare;let#[oe5,vs5,oT5,ts5,p1,p2,p3,p4,_]:=id t5;have I6:Inv X pins σ (upd H' ea (XC ea C d)) { s1 with heap:=h5 }:=by refine I1.call' (s':={ s1 with heap:=h5 }) os (Un.track (Un.moved un M5 D1 λb hb=>.inl (by rw[hst]; exact hb)) hn he1) (az.track (az.moved hok M5 D2 hS1) he1 (GV p1 p2 p3 p4)) bare λb z=>nomatch z
 refine qg I6 hN hj (.inl hk) (show aX ↥ea ↥ea from rfl) (λs6 I7=>?_) (.inr hk);refine Il (hh ea pins s6 _ _ _ ((I7.hdl ea).wish _) (hth ea he1)) (λf s7 q=>?_) λ_ _ z=>z.elim;have go:∀{σ':St} {H2:Hp} {Q:Flow->L5->Prop},Inv ((X.hdl ea).nox) pins σ' H2 s7->(∀s8,Inv X pins (σ'.set j none) H2 s8->Q f s8)->wpAny 0x2 X.A (do bindName X.env n .none; unbindBehindTheSuite X.env n hp) (λ_ s8=>Q f s8) X.xe s7:=λ{σ' H2 Q} J k=>by have J':=J.unhdl I.ok;let#[m,hm,hl]:=id J'.loc;exact wpAny_nameGoes_keeps hk hm (by rw[I.ok.kind]; rfl) λh' v hn' hs'=>k _ (J'.dropped hN hj hk hl hm hn' hs')
 cases f with
 | next =>
   let#[σ',H2,J,z]:=q;exact go J λs8 K8=>#[_,H2,K8,z]
 | ret u =>
   let#[v,σ',H2,J,rv,z]:=q;exact go J λs8 K8=>#[v,_,H2,K8,rv,z]
 | brk =>
   let#[σ',H2,J,z]:=q;exact go J λs8 K8=>#[_,H2,K8,z]
 | cont =>
   let#[σ',H2,J,z]:=q;exact go J λs8 K8=>#[_,H2,K8,z]
end
section
variable {P:Program} {w:World} {K:L7} {mg:Str->Hl K'} {base:Heap}
def Fun.okE {x qual:Str} {st:Stmt} {f:L6} {fd:FuncData} {N ps:List Str} {k:Nat} {sp:Sp} (F:Fun K x qual st f fd) (S:FnScope N ps (aS st)) (len:∀vs H Q E,sp vs H Q E->vs.length=ps.length)
   (hbody:∀(cdv:K') (A:Around) (outer:List Env) (s:L5) (H:Hp) (vs:List V) (Q:VK) (E:XK),Room k (A.deeper (envOfC qual (aS st) s.heap.objs.size f cdv))->sp vs H Q E ->
     ∃t,aO (cS (bv P w) P w K mg base N qual (aS st) f cdv A outer s H E) (aP st) t/\t { nx:=λ_ H'=>Q .non H',rt:=Q } (eJ N vs) H):FnOk P w K mg base (bv P w) (k+1) f fd ps sp:=by
 let#[oc,od,kV,doc,pm,an,cdv,ct,osl,rfl,lk,hcd]:=F.ex;exact tq lk hcd S len λA outer s H vs Q E hr hsp=>hbody cdv A outer s H vs Q E hr hsp
end
section
variable {X:Cx} {k:Nat} {f C:L6} {fd:FuncData} {ps:List Str} {sp:Sp} {x qual:Str} {st:Stmt} {p pos cpos:Pos} {e:Expr} {es:List Expr} {t:TA} {E:XK}
def qy (c:XClsOk X.K X.mg x C) (hi:PySem.W.findIn X.K ↥C "__init__"=⇑⇑(.builtin "ValueError.__init__")) (hc:X.calm=true) (hx:qY X E) (hg:Gl X x:=by rfl)
   (hdb:(x==("__debug__":Str))=false:=by decide):PS X (.Raise ⇑(.Call (.Name x p) [] [] cpos) none pos) (sv C E):=DY c.cls c.g hi c.kp hc hx hg hdb
end
def pC {K:L7} {mg:Str->Hl K'} {h:Heap} {name:Str} {C N:L6} {nm q:Str} {bs bm:List K'} {sn:List Str} {sub:List K'} {ab:Bool} {col:Hl Bool} {dd:Hl L6} {k0 k1 k2 k3 k5:Hl K'} (X:K.In h) (G:h.Ns mainGlobals mg)
   (a:PySem.W.nsIn K mainGlobals name=⇑⇑↥C) (l:K.lookup C=⇑(excClassObj nm q C N bs bm true sn sub ab col dd k0 k1 k2 k3 k5 "ValueError.__new__")) (v:Ex.veTail bm=true) (kp:PySem.W.keepIn K ↥C=true)
   (sa:PySem.W.findIn K ↥C "__setattr__"=⇑⇑(.builtin "object.__setattr__")) (ga:PySem.W.findIn K ↥C "__getattribute__"=⇑⇑(.builtin "BaseException.__getattribute__")) (gt:PySem.W.findIn K ↥C "__getattr__"=⇑none)
   (cl:PySem.W.findIn K ↥C "__class__"=⇑⇑(.builtin "object.__class__")) (sg:PySem.W.specialIn K (.builtin "object.__class__") "__get__"=⇑⇑(.builtin "getset_descriptor.__get__")) (tk:PySem.W.takesIn K (.builtin "object.__class__")=⇑true):XClsOk K mg name C :=
 #[PySem.W.mg_of X G a,#[nm,q,N,bs,bm,sn,sub,ab,col,dd,k0,k1,k2,k3,k5,l,v],kp,sa,ga,gt,cl,sg,tk]
abbrev Es (K:L7):List V->Hp->VK->Prop:=λxs H Q=>∃p ys,xs=[↥p]/\(aE K H p ys\/aG K H p ys)/\Q (.int (ys.length:Nat)) H
def Ff:bootBuiltins "ValueError"=⇑(.type "ValueError"):=by decide +kernel
def E9 :bP X (compareOp .IsNot) (λx y H Q=>∃a b,x=.bl a/\y=.bl b/\Q (.bl (!decide (a=b))) H):=by intro pins s σ H x y v u Q I rx ry h;let#[a,b,rfl,rfl,q]:=h;cases rx;cases ry;exact wpAny_isNot_plain rfl (bZ I q (by cases a <;> cases b <;> rfl))
abbrev noX:XK:=λ_ _ _=>False
def gM {P:Program} {w:World} :fR (bv P w) X noX:=by rintro pins σ H s e s' I ⟨ea,cls,d,T,H',_,_,_,_,_,_,_,_,_,_,h⟩;exact h.elim
end L2
namespace Sk
open PySem PySem.Spec PyProof.Rows
mutual
noncomputable def r9 (w:World):PyData->Int
 | .int i=>hashInt i
 | .str x=>hashStr w x
 | .bool b=>hashInt (if b then 1 else 0)
 | .tuple ds=>reduceHash (Builtin.Tuple.tupleHashOf (sh w ds))
 | _=>0
noncomputable def sh (w:World):List PyData->List Int
 | []=>[]
 | d::ds=>r9 w d::sh w ds
end
mutual
noncomputable def drw:PyData->Nat
 | .tuple ds=>vZ ds+1
 | _=>1
noncomputable def vZ:List PyData->Nat
 | []=>0
 | d::ds=>drw d+vZ ds
end
end Sk
namespace L2
open PySem PySem.Spec PyProof.Rows
structure RoomH (k:Nat) (A:Around):Prop where
 dp:A.depth+3 * k+5<recursionLimit
 un:A.units+16 * k+200<cLine
def Room.hdm {k j:Nat} {A:Around} (r:Room k A) {v:Hl K'} (h:j<=k):RoomH j (A.mark v):=#[by have:=r.dp; show A.depth+3 * j+5<_; lia,by have:=r.un; show A.units+16 * j+200<_; lia]
noncomputable abbrev Cx.dim (X:Cx):Cx:={ X with calm:=false }
structure FnOkH (P:Program) (w:World) (K:W.Frag) (mg:Str->Option Value) (base:Heap) (k:Nat) (f:Addr) (fd:FuncData) (ps:List Str) (sp:Sp):Prop where
 len:∀vs H Q E,sp vs H Q E->vs.length=ps.length
 run:∀(A:Around) (outer:List Env) (s:Shared) (H:Hp) (args:Args) (us:List Value) (vs:List V) (Q:VK) (E:XK),RoomH k A->Env0 P w K mg base A outer s H->BindsTo s fd args (ps.zip us)->aU vs us->sp vs H Q E ->
   codeAny (model P w) A (.call ↥f args) (CR CX0 outer P w H s Q E) s
section
variable {P:Program} {w:World} {K:L7} {mg:Str->Hl K'} {base:Heap}
def Fun.okH {x qual:Str} {st:Stmt} {f:L6} {fd:FuncData} {N ps:List Str} {k:Nat} {sp:Sp} (F:Fun K x qual st f fd) (S:FnScope N ps (aS st)) (len:∀vs H Q E,sp vs H Q E->vs.length=ps.length)
   (hbody:∀(cdv:K') (A:Around) (outer:List Env) (s:L5) (H:Hp) (vs:List V) (Q:VK) (E:XK),RoomH k (A.deeper (envOfC qual (aS st) s.heap.objs.size f cdv))->sp vs H Q E ->
     ∃t,aO (cS CX0 P w K mg base N qual (aS st) f cdv A outer s H E).dim.nox (aP st) t/\t { nx:=λ_ H'=>Q .non H',rt:=Q } (eJ N vs) H):FnOkH P w K mg base (k+1) f fd ps sp:=by
 let#[oc,od,kV,doc,pm,an,cdv,ct,osl,rfl,lk,hcd]:=F.ex;show#[len,λA outer s H args us vs Q E hr e0 hb r hsp=>?_];have KX:K.In s.heap:=e0.mod.kin.keeps λb o e=>(e0.bs b o e).1;have hr':RoomH k (A.deeper (envOfC qual (aS st) s.heap.objs.size f cdv)):=#[by have:=hr.dp; show A.depth+1+3 * k+5<_; lia,by have:=hr.un; show A.units+3+16 * k+200<_; lia]
 let#[t,ht,hq]:=hbody cdv A outer s H vs Q E hr' hsp;refine codeAny_call_function (by have:=hr.dp; lia) (KX _ _ lk) rfl S.co S.gen rfl (PySem.W.codeRec_of KX hcd) (hb _ _ _ _ ?_);refine Ka S.kind (λ⟨n,v⟩ hy=>?_) λenv he s1 x=>?_
 . rcases S.par n (KD hy).1 with q|q
   . exact .inl q
   . exact .inr #[q,PySem.W.cellsFrom_some _ _ _ (.inl q)]
 subst he;show#[(e0.mod.nolimit.keeps λb o e=>(e0.bs b o e).1).keeps x.toInCall.keep,codeAny_func ?_]
 -- the entry,as if nothing were handled
 have e1:Env0 P w K mg base { A with handled:=none } outer s H:=#[e0.frames,e0.mod,e0.bs,e0.bsz,e0.funs,e0.frf,e0.hok,e0.bare]
 have J:=wL (CX:=CX0) (qual:=qual) (f:=f) (cd:=cdv) (E:=E) S rfl e1 (len _ _ _ _ hsp) r x;have I:Inv (cS CX0 P w K mg base N qual (aS st) f cdv A outer s H E).dim [] (eJ N vs) H s1 :=
   #[#[J.ok.mod,J.ok.kind,J.ok.glob,J.ok.blt,J.ok.above,J.ok.inj,J.ok.has,J.ok.cab,λz=>Bool.noConfusion z,Around.frames_deeper e0.frames,J.ok.stk,J.ok.exf,J.ok.bs,J.ok.bsz,J.ok.noex,J.ok.exfs,J.ok.funs,J.ok.frf],J.os,J.bare,J.base,J.loc,J.cell,J.free,J.freeC,J.pin,J.hok,J.len]
 refine Il (ht.nox [] s1 (eJ N vs) H _ I hq) (λfl s' hs=>?_) λe s' hs=>hs;cases fl with
 | ret u =>
   let#[v,σ',H',J,rv,q]:=hs;show#[v,H',J.os,J.bare,J.base,J.hok,rv,q]
 | next =>
   let#[σ',H',J,q]:=hs;show#[V.non,H',J.os,J.bare,J.base,J.hok,rfl,q]
 | brk =>
   let#[_,_,_,q]:=hs;exact False.elim q
 | cont =>
   let#[_,_,_,q]:=hs;exact False.elim q
end
abbrev ES (K:L7):V->List V->Hp->VK->Prop:=λx xs H Q=>∃p ys y j,x=↥p/\xs=[y]/\aE K H p ys/\eC y=true/\ys.all eC=true/\j<1000/\(∃z,ys[j]?=⇑z/\dQ z y=true)/\(∀m z,m<j->ys[m]?=⇑z->dQ z y=false)/\Q (.int (j:Nat)) H
def CC {X:Cx}:nZ X "list.index" (ES X.K):=by
 intro pins s σ H x vs v us Q I rx rv h;obtain⟨p,ys,y,j,rfl,rfl,hT,fy,fs,hj0,⟨z,hz,ez⟩,hno,q⟩:=h;cases rx;let#[u,rfl,ru]:=rv.one;obtain⟨its,r,⟨⟨cls,dd,data,sl⟩,n,ho,hc,_,hd⟩,hl⟩:=I.list hT;simp only at hc hd;subst hc hd;let#[uz,huz,rz]:=r.get hz;have hj:j<its.toArray.size:=by rw[Hn];exact(HV.mp huz).1
 have eU:∀(m:Nat) (hm:m<its.toArray.size) (zz:V),ys[m]?=⇑zz->d8 y its.toArray[m]=dQ zz y:=λm hm zz hzz=>by
   let#[uu,huu,ruu]:=r.get hzz;have:its.toArray[m]=uu:=by have h2:=(HV.mp huu).2;simpa using h2
   rw[this];exact pK ruu (K9.mp fs zz (IA hzz))
 refine call_meets F.slot_list_index #[_,ho,rfl] F.entry_list_index (F.args_list_index_2 _ _) (SeqAt.list_indexAt p its.toArray n dd sl u (d8 y) j hj ∅ (by rw[eU j hj z hz]; exact ez) λm hm hmj=>?_) #[ho,λw hw=>kY ru fy r fs w ↑hw,?_]
 . have hm':m<ys.length:=by rw[r.length]; simpa using hm
   rw[eU m hm ys[m] (HU hm')];exact hno m _ hmj (HU hm')
 . show#[.int j,H,I.tok _,#[5],q]
structure BaseOk (K:W.Frag) (C:Addr) (m:Str) (f:Addr):Prop where
 ga:PySem.W.specialIn K ↥C "__getattribute__"=⇑⇑(.builtin "type.__getattribute__")
 rd:PySem.W.readsIn K C (.type "type")=true
 e:PySem.W.findCls K ↥C (.type "type") m=⇑(.val ↥f)
 kp:PySem.W.keepIn K ↥f=true
section
variable {X:Cx} {CX:di} {k:Nat} {f C:L6} {fd:FuncData} {ps:List Str} {sp:Sp} {dvs:List V} {ds:List K'} {E:XK} {x m:Str} {p pos apos:Pos} {e o:Expr} {es:List Expr} {ta:TE} {t:TA}
def A5 {pl:Sem Bool} (he:PE X o (tC ↥C)) (B:BaseOk X.K C m f) (F:FnOk X.prog X.w X.K X.mg X.base CX k f fd ps sp) (hr:Room k X.A) (hb:d9 X.K fd ps ds) (hd:aU dvs ds) (hx:fR CX X E) (ha:PA X (e::es) t)
   (hst:starEach (e::es) X.env=(false,eval e X.env)::starEach es X.env:=by rfl) (hpl:(backTo pos (starEach es X.env)).any (·.1)=false:=by rfl)
   (ht:eval (.Call (.Attribute o m apos) (e::es) [] pos) X.env=(do
     let ov <- eval o X.env
     standAt apos.atName
     let (f,first) <- holding [ov] (getMethod ov m pl)
     callWith pos f first (backTo pos (starEach (e::es) X.env)) (backToKw pos (keywordEach [] X.env))):=by rfl) :
   PE X (.Call (.Attribute o m apos) (e::es) [] pos) (mU sp dvs E t):=by
 intro pins s σ H Q I h;refine PySem.W.methodCall_KW (pl:=pl) (aQ (he pins s σ H (λx H1=>x=↥C/\t σ H1 λvs H2=>sp (vs++dvs) H2 Q E) I #[rfl,h]) λu s1 z197_=>?_) ht;let#[x,H1,I1,rx,ex,q]:=z197_;subst ex;obtain rfl:u=Value.ref C:=rx;refine PySem.W.method_cls I1.kIn B.ga (PySem.W.cls_value I1.kIn B.rd B.e rfl ?_);have I2:=I1.tok (s1.toks+1);refine PySem.W.callWith_K (first:=[]) (h₀:=X.base) I.ok.mod.kin B.kp (aQ (ha pos pins _ σ H1 _ I2 q) λus s2 z198_=>z198_.e λvs H2 I3 r q2=>#[I3.kIn,?_]) hst hpl;exact m9 (us:=us) (vs:=vs) F hr hb hd hx I3 r q2
end
structure BasOk (K:W.Frag) (C:Addr) (m qual:Str) (st:Stmt) (ps:List Str) (f:Addr) (fd:FuncData):Prop where
 F:Fun K m qual st f fd
 b:d9 K fd ps []
 B:BaseOk K C m f
def za {K:L7} {C:L6} {m qual:Str} {st:Stmt} {ps:List Str} {f:L6} {oc:K'} {od an:Hl L6} {osl:Array (Hl K')} {kV doc pm cdv ct:K'}
   (ga:PySem.W.specialIn K ↥C "__getattribute__"=⇑⇑(.builtin "type.__getattribute__")) (rd:PySem.W.readsIn K C (.type "type")=true) (e:PySem.W.findCls K ↥C (.type "type") m=⇑(.val ↥f)) (l:K.lookup f=⇑#[oc,od,.func (PySem.W.fnOf m qual (cz st) (aP st) (aS st) .none kV doc pm an cdv ct),osl]) (c:PySem.W.codeIn K cdv qual=true) (k:PySem.W.keepIn K ↥f=true)
   (b:∀(kV doc pm:K') (an:Hl L6) (cdv ct:K') (us:List K'),us.length=ps.length->bindArgs (PySem.W.fnOf m qual (cz st) (aP st) (aS st) .none kV doc pm an cdv ct) #[us,[]]=pure (ps.zip us)) :
   BasOk K C m qual st ps f (PySem.W.fnOf m qual (cz st) (aP st) (aS st) .none kV doc pm an cdv ct) :=
 #[gn l c k,(gn l c k).binds b,#[ga,rd,e,k]]
end L2
namespace PySem
open Sem (wp)
section
variable {prog:Program} {w:World} {A:Around} {E:K'->L5->Prop} {s:L5}
def DM {a:L6} {Q:Hl Obj->L5->Prop} (h:Q (s.heap.get? a) s):wpAny 0x3 A (loadIfAlive a) Q E s:=λΓ p _=>by unfold loadIfAlive;rw[Sem.wp_loadIfAlive];exact↑h
end
end PySem
namespace L2
open PySem PySem.Spec PyProof.Rows
variable {p:L6}
section
variable {g:TG} {tif:TT} {te:TE} {js:List (Hl Nat)} {σ:St} {H:Hp} {Q:VK}
abbrev kO (H:Hp) (p:L6) (T:Nat->Hp->V->Prop) (i:Nat) (acc:List V) (H2:Hp):Prop:=aB H H2/\H2 p=⇑(.lst acc)/\acc.length=i/\∀(j:Nat) v,acc[j]?=⇑v->T j (ers p H2) v
def AU {H:Hp} {o:HO}:ers p (upd H p o)=ers p H:=by
 funext b;unfold ers;by_cases h:b=p
 . rw[He h,He h]
 . rw[HX h,HX h,aM h]
def pE {T:Nat->Hp->V->Prop} {i:Nat} {acc:List V} {H2 H3:Hp} {v:V} (tm:∀i v H H',aB H H'->T i H v->T i H' v) (hp:H p=none) (r:kO H p T i acc H2) (s3:aB H2 H3) (hv:T i (ers p H3) v) :
   H3 p=⇑(.lst acc)/\kO H p T (i+1) (acc++[v]) (upd H3 p (.lst (acc++[v]))):=by
 let#[s2,e2,rfl,ht]:=r;show#[s3 _ _ e2,(s2\s3).upd hp,aH,by simp,λj u hu=>?_];rw[AU];by_cases hj:j<acc.length
 . rw[IV hj] at hu;exact tm _ _ _ _ (aB.ers s3) (ht j u hu)
 . have:j=acc.length:=by
     have:=(HV.mp hu).1;simp at this
     lia
   subst this;rw[IS (HY _)] at hu;simp at hu;rw[<- hu];exact hv
def hV {K:L7} {a:L6} {xs:List V} (T:Nat->Hp->V->Prop) (tm:∀i v H H',aB H H'->T i H v->T i H' v) (hn:xs.length<=1000000) (hS:aE K H a xs) (hp:H p=none)
   (hs:∀i x H2 (R:VK),xs[i]?=⇑x->aB H H2->(∃acc,H2 p=⇑(.lst acc))->(∀v H3,aB H2 H3->T i (ers p H3) v->R v H3)->g x (bu js σ) H2 λσ2 H3=>tif σ2 H3 λc H4=>if c=true then te σ2 H4 R else False)
   (hd:∀H2 vs,aB H H2->H2 p=⇑(.lst vs)->vs.length=xs.length->(∀(i:Nat) v,vs[i]?=⇑v->T i (ers p H2) v)->Q ↥p H2) (mono:∀x H2 (M M':St->Hp->Prop),(∀σ' H',M σ' H'->M' σ' H')->g x (bu js σ) H2 M->g x (bu js σ) H2 M':=by intro _ _ _ _ h z; exact h _ _ z) (mon2:∀σ2 H2 (M M':Bool->Hp->Prop),(∀c H',M c H'->M' c H')->tif σ2 H2 M->tif σ2 H2 M':=by intro _ _ _ _ h z; exact h _ _ z) :
   gW (i9 K a) g tif te js σ Q p H:=by
 refine qA hn (kO H p T) #[aB.new hp,aH,rfl,λj v h=>by simp at h] ?_ ?_ ?_
 . rintro i acc H2 hi ⟨s2,e2,l2,_⟩;show#[e2,∅,s2.seq hS]
 . rintro i x acc H2 hx r;refine mono _ _ _ _ (λσ' H' z=>?_) (hs i x H2 _ hx r.1 #[acc,r.2.1] λv H3 s3 t3=>pE tm hp r s3 t3);refine mon2 _ _ _ _ (λc H'' zz=>?_) z;cases c with
   | true=>exact zz
   | false=>exact zz.elim
 . rintro acc H2 ⟨s2,e2,l2,t2⟩;exact hd H2 acc s2 e2 l2 t2
def Bl {K:L7} {a:L6} {xs:List V} (T:Nat->Hp->V->Prop) (tm:∀i v H H',aB H H'->T i H v->T i H' v) (hn:xs.length<=1000000) (hS:aG K H a xs) (hp:H p=none)
   (hs:∀i x H2 (R:VK),xs[i]?=⇑x->aB H H2->(∃acc,H2 p=⇑(.lst acc))->(∀v H3,aB H2 H3->T i (ers p H3) v->R v H3)->g x (bu js σ) H2 λσ2 H3=>tif σ2 H3 λc H4=>if c=true then te σ2 H4 R else False)
   (hd:∀H2 vs,aB H H2->H2 p=⇑(.lst vs)->vs.length=xs.length->(∀(i:Nat) v,vs[i]?=⇑v->T i (ers p H2) v)->Q ↥p H2) (mono:∀x H2 (M M':St->Hp->Prop),(∀σ' H',M σ' H'->M' σ' H')->g x (bu js σ) H2 M->g x (bu js σ) H2 M':=by intro _ _ _ _ h z; exact h _ _ z) (mon2:∀σ2 H2 (M M':Bool->Hp->Prop),(∀c H',M c H'->M' c H')->tif σ2 H2 M->tif σ2 H2 M':=by intro _ _ _ _ h z; exact h _ _ z) :
   gW (iJ K a) g tif te js σ Q p H:=by
 refine qD hn (kO H p T) #[aB.new hp,aH,rfl,λj v h=>by simp at h] ?_ ?_ ?_
 . rintro i acc H2 hi ⟨s2,e2,l2,_⟩;show#[e2,∅,s2<*hS]
 . rintro i x acc H2 hx r;refine mono _ _ _ _ (λσ' H' z=>?_) (hs i x H2 _ hx r.1 #[acc,r.2.1] λv H3 s3 t3=>pE tm hp r s3 t3);refine mon2 _ _ _ _ (λc H'' zz=>?_) z;cases c with
   | true=>exact zz
   | false=>exact zz.elim
 . rintro acc H2 ⟨s2,e2,l2,t2⟩;exact hd H2 acc s2 e2 l2 t2
def jz {lo:Int} {n:Nat} (T:Nat->Hp->V->Prop) (tm:∀i v H H',aB H H'->T i H v->T i H' v) (hn:n<=1000000) (hp:H p=none)
   (hs:∀i H2 (R:VK),i<n->aB H H2->(∃acc,H2 p=⇑(.lst acc))->(∀v H3,aB H2 H3->T i (ers p H3) v->R v H3)->g (.int (lo+i)) (bu js σ) H2 λσ2 H3=>tif σ2 H3 λc H4=>if c=true then te σ2 H4 R else False)
   (hd:∀H2 vs,aB H H2->H2 p=⇑(.lst vs)->vs.length=n->(∀(i:Nat) v,vs[i]?=⇑v->T i (ers p H2) v)->Q ↥p H2) (mono:∀x H2 (M M':St->Hp->Prop),(∀σ' H',M σ' H'->M' σ' H')->g x (bu js σ) H2 M->g x (bu js σ) H2 M':=by intro _ _ _ _ h z; exact h _ _ z) (mon2:∀σ2 H2 (M M':Bool->Hp->Prop),(∀c H',M c H'->M' c H')->tif σ2 H2 M->tif σ2 H2 M':=by intro _ _ _ _ h z; exact h _ _ z) :
   gW (gO lo n) g tif te js σ Q p H:=by
 refine nP hn (kO H p T) #[aB.new hp,aH,rfl,λj v h=>by simp at h] ?_ ?_ ?_
 . rintro i acc H2 hi ⟨s2,e2,l2,_⟩;show#[e2,∅]
 . rintro i acc H2 hx r;refine mono _ _ _ _ (λσ' H' z=>?_) (hs i H2 _ hx r.1 #[acc,r.2.1] λv H3 s3 t3=>pE tm hp r s3 t3);refine mon2 _ _ _ _ (λc H'' zz=>?_) z;cases c with
   | true=>exact zz
   | false=>exact zz.elim
 . rintro acc H2 ⟨s2,e2,l2,t2⟩;exact hd H2 acc s2 e2 l2 t2
end
end L2
namespace Wk
open PySem L2 Gx Fl
variable {H':Hp}
section
variable {cW cF:L6} {Hb H H2:Hp} {w:Wr} {fs:List Fm} {oc:V} {sent:List V} {co:HO} {rc:Int}
abbrev gr (Hb H H2:Hp):Hp:=λb=>match H b with
 | some _=>Hb b
 | none=>H2 b
def gr_same (hb:aB Hb H):aB Hb (gr Hb H H2):=λb o h=>by unfold gr;rw[hb _ _ h];exact h
def By (hb:aB Hb H) (s:aB H H2):aB (gr Hb H H2) H2:=λb o h=>by
 unfold gr at h;cases e:H b with
 | none=>rw[e] at h; exact h
 | some v=>rw[e] at h; exact s _ _ (hb _ _ h)
def gr_new {b:L6} {o:HO} (h:H b=none) (h2:H2 b=⇑o):gr Hb H H2 b=⇑o:=by unfold gr;rw[h];exact h2
def gr_own {b:L6} {o:HO} (h:H b=⇑o) (hb:Hb b=none):gr Hb H H2 b=none:=by unfold gr;rw[h];exact hb
abbrev NI (H H':Hp):Prop:=∀b o,H b=⇑o->(∀C dx fs,o≠.ins C dx fs)->H' b=⇑o
def NI.tup {K:L7} {a:L6} {xs:List V} {H':Hp} (e:NI H H') (h:aG K H a xs):aG K H' a xs:=by
 rcases h with h|h
 . refine .inl ?_;rcases h with h|h
   . exact .inl (e _ _ h (λ_ _ _ z=>by cases z))
   . exact .inr (by
       obtain h:=h
       first
         | exact e _ _ h (λ_ _ _ z=>by cases z)
         | (let#[n,h]:=h; exact⟨n,e _ _ h (λ_ _ _ z=>by cases z)⟩))
 . exact .inr h
def D4 {K:L7} {xs as:List V} {g:Hl Str} (e:NI H H') (h:K12.RowS K H xs g as):K12.RowS K H' xs g as:=by cases h <;> first|(constructor; done)|(constructor; exact e<*(by assumption))
def BW {K:L7} {f:F2.Fd} (h:F2.FnAt K H f) (e:NI H H'):F2.FnAt K H' f :=
 #[e<*h.fn,e<*h.pr,e<*h.rw_,λw hw=>by let#[rest,h1,h2]:=h.rk w hw; show#[rest,e<*h1,h2],
   #[by let#[n,b,p,r,h1,h2,h3]:=h.fu.fn; show#[n,b,p,r,e<*h1,e<*h2,e<*h3],λd hd=>let z:=h.fu.rows d hd; #[by let#[xs,h1,h2]:=z.row; show#[xs,e<*h1,D4 e h2],z.ats,z.len,z.nm],h.fu.pn,h.fu.pl,h.fu.dl],h.wf,h.len]
def flows_ni {K:L7} {C x:L6} {fns:List F2.Fd} (h:F2.FlowsAt K C H x fns) (e:NI H H') (ex:∀o,H x=⇑o->H' x=⇑o):F2.FlowsAt K C H' x fns:=by
 let#[dx,fz,d,kv,nl,wl,h0,h1,h2,h3,h4,h5,h6,h7,h8]:=h.ob;show#[λf hf=>BW (h.all f hf) e,h.nd,#[dx,fz,d,kv,nl,wl,h0,#[ex _ h1.ob,λj hj=>e _ _ (h1.dc j hj) (λ_ _ _ z=>by cases z)],h2,h3,h4,h5,h6,h7,λi f hi=>#[e _ _ (h8 i f hi).1 (λ_ _ _ z=>by cases z),?_]]];let#[vs,e1,e2,e3]:=(h8 i f hi).2;show#[vs,e _ _ e1 (λ_ _ _ z=>by cases z),e2,λk v q=>?_];let#[o,due,vo]:=e3 k v q;show#[o,due,?_];cases o with
 | none=>exact vo
 | some l=>let#[p,z1,z2]:=vo; show#[p,z1,e _ _ z2 (λ_ _ _ z=>by cases z)]
end
section
variable {K:L7} {C x:L6} {H:Hp} {fns:List F2.Fd} {F:F2.Fd}
abbrev BI (C:L6) (H:Hp) (x:L6) (fld:Str) (n:Str) (v:V):Prop:=∃dx fs d kvs,H x=⇑(.ins C dx fs)/\fs.lookup fld=⇑↥d/\H d=⇑(.dK kvs)/\aq kvs (Sum.inr n:aF)=⇑v
def dget_of {H:Hp} {d:L6} {kvs:List (aF×V)} {n:Str} {v:V} (h:H d=⇑(.dK kvs)) (hv:aq kvs (Sum.inr n:aF)=⇑v):cr H d (.str n) ⇑v:=by have:=cr.k (k:=(Sum.inr n:aF)) h;rw[hv] at this;exact this
def fl_names (h:F2.FlowsAt K C H x fns) (hF:F∈fns):∃nl,BI C H x "names_in" F.name ↥nl/\H nl=⇑(.lst ((F2.nms F).map V.str)):=by let#[i,hi]:=List.getElem?_of_mem hF;let#[dx,fz,d,kv,nl,wl,h0,hO,h2,h3,h4,h5,h6,h7,h8]:=h.ob;have hd:=hO.dc 4 #[];rw[h6] at hd;show#[nl i,#[dx,8,hO.ob,tP _ _,hd,F2.kD_at _ h.nd hi],(h8 i F hi).1]
def fl_last (h:F2.FlowsAt K C H x fns):∃dx fs fz,H x=⇑(.ins C dx fs)/\fns[fns.length - 1]?=⇑fz/\fs.lookup ("last":Str)=⇑(.str fz.name):=by let#[dx,fz,d,kv,nl,wl,h0,hO,_]:=h.ob;show#[dx,_,fz,hO.ob,h0,F5 _ _]
end
end Wk
namespace Rk2
open PySem L2 K21
inductive Tr where
 | box (k:Int):Tr
 | num (v:Int):Tr
 | op (s:Str) (l r:Tr):Tr
 deriving DecidableEq
abbrev lvs:Tr->List (Bool×Int)
 | .box k=>[(true,k)]
 | .num v=>[(false,v)]
 | .op _ l r=>lvs l++lvs r
abbrev dp:Tr->Nat
 | .box _=>0
 | .num _=>0
 | .op _ l r=>max (dp l) (dp r)+1
abbrev RAt (H:Hp):Tr->V->Prop
 | .box k,v=>∃p,v=↥p/\H p=⇑(.tup [.str "box",.int k])
 | .num n,v=>∃p,v=↥p/\H p=⇑(.tup [.str "num",.int n])
 | .op s l r,v=>∃p x y,v=↥p/\H p=⇑(.tup [.str s,x,y])/\¬ s="box"/\¬ s="num"/\RAt H l x/\RAt H r y
def RAt.mono {H H':Hp} (e:aB H H'):∀{t:Tr} {v:V},RAt H t v->RAt H' t v
 | .box k,v,h=>by let#[p,h1,h2]:=h; show#[p,h1,e _ _ h2]
 | .num n,v,h=>by let#[p,h1,h2]:=h; show#[p,h1,e _ _ h2]
 | .op s l r,v,h=>by let#[p,x,y,h1,h2,h3,h4,h5,h6]:=h; show#[p,x,y,h1,e _ _ h2,h3,h4,RAt.mono e h5,RAt.mono e h6]
abbrev Ps {α:Type} (R:α->V->Prop):List V->List α->Prop
 | [],[]=>True
 | v::us,t::ts=>R t v/\Ps R us ts
 | _,_=>False
variable {α:Type} {R R':α->V->Prop}
def Ps.imp (f:∀t v,R t v->R' t v):∀{us:List V} {ts:List α},Ps R us ts->Ps R' us ts
 | [],[],_=>trivial
 | v::us,t::ts,h=>#[f _ _ h.1,Ps.imp f h.2]
 | [],_::_,h=>h.elim
 | _::_,[],h=>h.elim
def Ps.len:∀{us:List V} {ts:List α},Ps R us ts->us.length=ts.length
 | [],[],_=>rfl
 | v::us,t::ts,h=>by rw[II,II,Ps.len h.2]
 | [],_::_,h=>h.elim
 | _::_,[],h=>h.elim
def Ps.app:∀{us us':List V} {ts ts':List α},Ps R us ts->Ps R us' ts'->Ps R (us++us') (ts++ts')
 | [],_,[],_,_,h=>h
 | v::us,_,t::ts,_,h,h'=>#[h.1,Ps.app h.2 h']
 | [],_,_::_,_,h,_=>h.elim
 | _::_,_,[],_,h,_=>h.elim
def Ax (c:Nat):¬ (#[(List.toArray [c])]:Str)="box"/\¬ (#[(List.toArray [c])]:Str)="num":=by
 show#[λz=>?_,λz=>?_]
 . have:=Hr Str.length z;exact absurd this (by show ¬ (1=Str.length "box"); decide +kernel)
 . have:=Hr Str.length z;exact absurd this (by show ¬ (1=Str.length "num"); decide +kernel)
def RAt.head {H:Hp} {tr:Tr} {v:V} (h:RAt H tr v):∃p hd rest,v=↥p/\H p=⇑(.tup (.str hd::rest))/\(hd="num"->∃k,tr=.num k/\rest=[.int k])/\(¬ hd="num"->∀k,tr≠.num k):=by
 cases tr with
 | box k =>
   let#[p,rfl,e]:=h;show#[p,9,e,λz=>absurd z 0x4,λ_ k z=>by cases z]
 | num k =>
   let#[p,rfl,e]:=h;show#[p,9,e,λ_=>#[k,7],λz=>absurd rfl z]
 | op s l r =>
   let#[p,x,y,rfl,e,n1,n2,_,_]:=h;show#[p,9,e,λz=>absurd z n2,λ_ k z=>by cases z]
abbrev okl (l:List (Bool×Int)):Prop:=∀v,(false,v)∈l->0<=v/\v<wide
def Gf {v:Int} (h:okl (lvs (.num v))):0<=v/\v<wide:=h v Hj
def vq {Q:VK} {H:Hp} {x y:V} (h:x=y) (q:Q y H):Q x H:=by subst h; exact q
def gz:((2:Int) ^ (48:Int).toNat)=wide:=by decide
def jT:(0:Int)<(2:Int) ^ (48:Int).toNat:=by decide
def bH:2<=sizeLine:=by decide
def dY:3<=sizeLine:=by decide
def lt_line' {n:Nat} (h:n<1000000):n<sizeLine:=by
 have:(1000000:Nat)<sizeLine:=by decide
 omega
def bR {x:V} {r:List V}:am (x::r) 0=⇑x:=by unfold am cX;rw[He #[],He 0x6];rfl
def BJ:¬ (("num":Str)="box"):=by decide +kernel
def Dr:¬ (("box":Str)="num"):=by decide +kernel
def CF:((("+-*/<=&|^":Str).cps.toList.length:Nat):Int)=9:=by decide +kernel
def DG:("+-*/<=&|^":Str).length<=sizeLine:=by decide +kernel
def Bb {i:Int} (h0:0<=i) (h1:i<9):∃ch,am ("+-*/<=&|^":Str).cps.toList i=⇑ch:=by let#[ch,hch,_]:=uY (xs:=("+-*/<=&|^":Str).cps.toList) (i:=i) h0 (by rw[CF]; exact h1);show#[ch,hch]
abbrev wv (f:Int->Int):Tr->Int
 | .box k=>f k
 | .num v=>v
 | .op s l r=>valOf s (wv f l) (wv f r)
def oN {a b:List (Bool×Int)} (h:okl (a++b)):okl a/\okl b:=#[λv hv=>h v (IH.mpr (.inl hv)),λv hv=>h v (IH.mpr (.inr hv))]
def iM {f:Int->Int} (hf:∀k,0<=f k/\f k<wide):∀{t:Tr},okl (lvs t)->0<=wv f t/\wv f t<wide
 | .box k,_=>hf k
 | .num v,h=>Gf h
 | .op s l r,h=>by let#[h1,h2]:=oN h;have b1:=iM hf h1;have b2:=iM hf h2;exact BN s b1.1 b2.1 b1.2 b2.2
abbrev fOf (kvs:List (aF×V)) (k:Int):Int:=match aq kvs (Sum.inl k:aF) with|some (.int z)=>z|_=>0
abbrev DV (kvs:List (aF×V)):Prop:=∀k x,aq kvs (Sum.inl k:aF)=⇑x->∃z,x=.int z/\0<=z/\z<wide
def wM {kvs:List (aF×V)} (h:DV kvs) (k:Int):(aq kvs (Sum.inl k:aF)).getD (.int 0)=.int (fOf kvs k):=by
 unfold fOf;cases e:aq kvs (Sum.inl k:aF) with
 | none=>rfl
 | some x =>
   let#[z,rfl,_]:=h k x e;rfl
def ki {kvs:List (aF×V)} (h:DV kvs) (k:Int):0<=fOf kvs k/\fOf kvs k<wide:=by
 unfold fOf;cases e:aq kvs (Sum.inl k:aF) with
 | none=>show#[Int.le_refl _,#[]]
 | some x =>
   let#[z,rfl,h0,h1]:=h k x e;show#[h0,h1]
def putK_len (kvs:List (aF×V)) (k:aF) (v:V):(putK kvs k v).length<=kvs.length+1:=by
 unfold putK;split
 . rw[HS]; omega
 . rw[HZ]; exact HY _
def DV_put {kvs:List (aF×V)} (h:DV kvs) {k y:Int} (y0:0<=y) (y1:y<wide):DV (putK kvs (Sum.inl k:aF) (.int y)):=by
 intro j x e;rw[cZ] at e;split at e
 . show#[y,(Option.some.inj e).symm,y0,y1]
 . exact h j x e
end Rk2
namespace Rk2
open PySem L2 K21
def okl_one {v:Int} (h0:0<=v) (h1:v<wide):okl (lvs (.num v)):=λw hw=>by have h:=IC.mp hw;cases h;show#[h0,h1]
def Dl (k:Int):okl (lvs (.box k)):=λw hw=>by have h:=IC.mp hw;cases h
end Rk2
namespace K41
open PySem L2 Gx Fl
structure RR where
 w:Rw
 d:K12.RowD
abbrev mW (K:L7) (H:Hp) (x:RR):Prop:=x.w.r=x.d.r/\iu K H x.w/\K12.RowAt K H x.d
def at_i (i:Int):K12.Atom (.int i):=.inr #[i,rfl]
def at_s {s:Str} (h:K12.Nm s):K12.Atom (.str s):=.inl #[s,rfl,h]
def qE {p:V->Prop} {a:V} (h:p a):∀v∈[a],p v:=λv hv=>by rw[IC.mp hv]; exact h
abbrev rone (k:Str) (r:L6) (a:V):RR:=#[#[r,k,""],#[r,(0),(0),none,[a]]]
def ok_out {K:L7} {H:Hp} {r:L6} {a:V} (h:aG K H r [.str "out",a]) (ha:K12.Atom a):mW K H (rone "out" r a) :=
 #[rfl,#[_,h,λz=>absurd z (by show ¬ (("out":Str)="call"); decide +kernel)],#[#[_,h,.out a],qE ha,by show 1<=10; decide,λx hx=>by cases hx]]
def ok_back {K:L7} {H:Hp} {r:L6} {a:V} (h:aG K H r [.str "back",a]) (ha:K12.Atom a):mW K H (rone "back" r a) :=
 #[rfl,#[_,h,λz=>absurd z (by show ¬ (("back":Str)="call"); decide +kernel)],#[#[_,h,.back a],qE ha,by show 1<=10; decide,λx hx=>by cases hx]]
def good_rep {ks os:List Str} {x:Str} (g:K13.Good ks os) (h1:¬ K13.isO x=true) (h2:¬ K13.isE x=true) (h3:¬ x="end"):∀n,K13.Good (ks++List.replicate n x) os
 | 0=>by rw[List.replicate_zero,IQ]; exact g
 | n+1=>by rw[List.replicate_succ',<- Ib]; exact(good_rep g h1 h2 h3 n).plain h1 h2 h3
abbrev lc (z:Int):Nat:=K12.lets.cps.toList.getD z.toNat 0
def uF:K12.lets.cps.toList.length=26:=by decide +kernel
variable {z:Int}
def uW (h0:0<=z) (h1:z<26):am K12.lets.cps.toList z=⇑(lc z):=by
 let#[j,rfl]:=Iv h0;have hj:j<K12.lets.cps.toList.length:=by rw[uF]; lia
 refine bp ?_;unfold lc;rw[JI,Ii,HU hj];rfl
def uC (h0:0<=z) (h1:z<26):lc z∈K12.lets.cps.toList:=by
 have hj:z.toNat<K12.lets.cps.toList.length:=by rw[uF]; lia
 unfold lc;rw[Ii,HU hj];exact IT hj
def Di {x y:Int} (x0:0<=x) (x1:x<26) (y0:0<=y) (y1:y<26) (h:lc x=lc y):x=y:=by
 have key:∀i<26,∀j<26,K12.lets.cps.toList.getD i 0=K12.lets.cps.toList.getD j 0->i=j:=by decide +kernel
 have:=key x.toNat ∅ y.toNat ∅ h
 lia
def vO {l:List Nat} (h:∀c∈l,c∈K12.lets.cps.toList):PyData.strOk (tx l)=true:=by
 have hz:=K12.lets_ok;unfold PyData.strOk at hz ⊢;rw[Array.all_eq_true'] at hz ⊢;intro x hx;have hx:x∈l:=by simpa [tx] using hx
 exact hz x (by simpa using h x hx)
abbrev jF:List V:=[V.str "fn",V.str "in",V.str "new",V.str "get",V.str "put",V.str "call",V.str "out",V.str "if",V.str "while",V.str "else",V.str "end",V.str "back"]
abbrev db (W:List Nat) (a:Nat) (z:Int) (k:Nat):List Nat:=W.take a++[lc ((z+k)%26)]++W.drop a
abbrev nmk (W:List Nat) (a:Nat) (z:Int) (k:Nat):Str:=if eP (.str (tx (db W a z k))) jF=true then tx (db W a z k++[120]) else tx (db W a z k)
def bse_len (W:List Nat) (a:Nat) (z:Int) (k:Nat):(db W a z k).length=W.length+1:=by
 unfold db;rw[HZ,HZ,IE,J5];simp
 lia
variable {j:Nat}
def sW {W:List Nat} {a:Nat} {i:Nat}(hi:i<26) (hj:j<26) (h:db W a z i=db W a z j):i=j:=by
 unfold db at h;rw[Ib,Ib] at h;have h:=List.append_cancel_left h;have h:=(List.cons.inj h).1;have b1:=ge (z+i) 26 #[];have b2:=ge (z+j) 26 #[];have:=Di b1.1 b1.2 b2.1 b2.2 h
 lia
def zU {W:List Nat} {a:Nat} {i:Nat}(hi:i<26) (hj:j<26) (h:nmk W a z i=nmk W a z j):i=j:=by
 have l1:=bse_len W a z i;have l2:=bse_len W a z j;unfold nmk at h;split at h
 . split at h
   . have:=ll h;exact sW hi hj (List.append_cancel_right this)
   . have:=Hr List.length (ll h);rw[HZ] at this;simp at this
     lia
 . split at h
   . have:=Hr List.length (ll h);rw[HZ] at this;simp at this
     lia
   . exact sW hi hj (ll h)
def Er {W:List Nat} {a:Nat} {k:Nat} (hW:∀c∈W,c∈K12.lets.cps.toList) (hl:W.length<=10):K12.Nm (nmk W a z k):=by
 have b1:=ge (z+k) 26 #[];have hm:∀c∈db W a z k,c∈K12.lets.cps.toList:=λc hc=>by
   unfold db at hc;rcases IH.mp hc with h|h
   . rcases IH.mp h with h|h
     . exact hW c (List.mem_of_mem_take h)
     . rw[IC.mp h]; exact uC b1.1 b1.2
   . exact hW c (List.mem_of_mem_drop h)
 have l1:=bse_len W a z k;unfold nmk;split
 . show#[by rw[dW,HZ,l1]; simp; lia,vO λc hc=>?_];rcases IH.mp hc with h|h
   . exact hm c h
   . rw[IC.mp h]; decide +kernel
 . show#[by rw[dW,l1]; lia,vO hm]
def tx_to {l:List Nat} (h:j<=l.length):PySem.Txt.slice (tx l) none ⇑(j:Int)=tx (l.take j):=by have:=PyProof.Rows.slice_closes_to (x:=tx l) (j:=(j:Int)) #[∅,by rw[jr]; lia];rw[Kg,jr] at this;rw[this];simp [tx]
def Ad {l:List Nat} (h:j<=l.length):PySem.Txt.slice (tx l) ⇑(j:Int) none=tx (l.drop j):=by
 have:=PyProof.Rows.slice_from_eq (x:=tx l) (i:=(j:Int)) (b:=(l.length:Int)) ∅ (by rw[dW]; lia) (by rw[dW]);rw[this,jr];have e:((l.length:Int) - (j:Int)).toNat=(l.drop j).length:=by rw[J5]; lia
 rw[e,JI,IP];rfl
end K41
namespace Bg
open PySem L2 Gx Rk2
abbrev p8:Tr->Prop
 | .op s l r=>PyData.strOk s=true/\p8 l/\p8 r
 | _=>True
abbrev TOk' (n:Nat) (t:Tr):Prop:=okl (lvs t)/\p8 t/\dp t<=n/\∀k,(true,k)∈lvs t->0<=k/\k<128
def sj {n:Nat} {k:Int} (h:0<=k/\k<128):TOk' n (.box k):=#[Dl k,trivial,Hw _,λj hj=>by cases IC.mp hj; exact h]
def rW {n:Nat} {v:Int} (h0:0<=v) (h1:v<K21.wide):TOk' n (.num v):=#[okl_one h0 h1,trivial,Hw _,λj hj=>by cases IC.mp hj]
def nQ {n:Nat} {s:Str} {a b:Tr} (hs:PyData.strOk s=true) (ha:TOk' n a) (hb:TOk' n b):TOk' (n+1) (.op s a b) :=
 #[λv hv=>(IH.mp hv).elim (ha.1 v) (hb.1 v),#[hs,ha.2.1,hb.2.1],Nat.succ_le_succ (Nat.max_le.mpr #[ha.2.2.1,hb.2.2.1]),λk hk=>(IH.mp hk).elim (ha.2.2.2 k) (hb.2.2.2 k)]
def mR {i:Int} {ch:Nat} (h:am ("+-*/<=&|^":Str).cps.toList i=⇑ch):PyData.strOk (#[(List.toArray [ch])]:Str)=true:=by
 have hm:ch∈("+-*/<=&|^":Str).cps.toList:=by
   unfold am at h;cases e:cX ("+-*/<=&|^":Str).cps.toList.length i with
   | none=>rw[e] at h; cases h
   | some j=>rw[e] at h; exact IA h
 have key:∀c∈("+-*/<=&|^":Str).cps.toList,PyData.strOk (⟨(List.toArray [c])⟩:Str)=true:=by decide +kernel
 exact key ch hm
def emod_bd' (a b:Int) (h:0<b):0<=a%b/\a%b<b:=#[JT _ (Int.ne_of_gt h),JN _ h]
abbrev BxL (bs:List Int):Prop:=bs.length=8/\∀b∈bs,0<=b/\b<128
def bx_at {bs:List Int} (h:BxL bs) (z:Int):∃b,(0:Int)<((bs.map V.int).length:Nat)/\am (bs.map V.int) (z%((bs.map V.int).length:Nat))=⇑(.int b)/\0<=b/\b<128:=by
 have hl:(bs.map V.int).length=8:=by rw[HS]; exact h.1
 have hz:=emod_bd' z ((bs.map V.int).length:Nat) ∅;let#[j,ej]:=Iv hz.1;have hj:j<bs.length:=by have:=h.1; lia
 show#[bs[j],∅,?_,(h.2 _ (IT hj)).1,(h.2 _ (IT hj)).2];rw[ej];refine bp ?_;rw[Hk,HU hj];rfl
end Bg
namespace Bg
open PySem L2 Gx K41
abbrev iE (K:L7) (H:Hp) (n:Nat) (v:V):Prop:=∃d,c8 n d/\bN K H d v
abbrev jJ (K:L7) (H:Hp) (n:Nat) (xs:List V):Prop:=∃ds,(∀d∈ds,c8 n d)/\cN K H ds xs
def iE.str {K:L7} {H:Hp} {n:Nat} {s:Str} (h:PyData.strOk s=true):iE K H n (.str s):=#[.str s,c8.str h,by unfold bN; rfl]
def iE.int {K:L7} {H:Hp} {n:Nat} {i:Int}:iE K H n (.int i):=#[.int i,c8.int i,by unfold bN; rfl]
variable {K:L7} {H:Hp} {n:Nat}
def iE.bl {b:Bool}:iE K H n (.bl b):=#[.bool b,c8.bool b,by unfold bN; rfl]
def jJ.nil :jJ K H n []:=#[[],λd h=>(by cases h),by unfold cN; rfl]
def jJ.cons {K:L7} {H:Hp} {n:Nat} {x:V} {xs:List V} (h:iE K H n x) (t:jJ K H n xs):jJ K H n (x::xs):=by let#[d,l,z]:=h;let#[ds,ls,zs]:=t;show#[d::ds,λe he=>(Hh.mp he).elim (λz=>z ▸ l) (ls e),?_];unfold cN;show#[9,z,zs]
abbrev Twin (K:L7) (H:Hp) (n:Nat) (x y:V):Prop:=∃d,c8 n d/\bN K H d x/\bN K H d y
abbrev TwinA (K:L7) (H:Hp) (n:Nat) (xs ys:List V):Prop:=∃ds,(∀d∈ds,c8 n d)/\cN K H ds xs/\cN K H ds ys
def TwinA.nil :TwinA K H n [] []:=#[[],λd h=>(by cases h),(by unfold cN; rfl),(by unfold cN; rfl)]
def TwinA.cons {K:L7} {H:Hp} {n:Nat} {x y:V} {xs ys:List V} (h:Twin K H n x y) (t:TwinA K H n xs ys):TwinA K H n (x::xs) (y::ys):=by
 let#[d,l,z1,z2]:=h;let#[ds,ls,zs1,zs2]:=t;show#[d::ds,λe he=>(Hh.mp he).elim (λz=>z ▸ l) (ls e),?_,?_]
 . unfold cN;show#[9,z1,zs1]
 . unfold cN;show#[9,z2,zs2]
def TwinA.of {xs:List V} (h:jJ K H n xs):TwinA K H n xs xs:=by let#[ds,l,z]:=h; show#[ds,l,z,z]
def Twin.tup {K:L7} {H:Hp} {n:Nat} {a b:L6} {xs ys:List V} (h1:aG K H a xs) (h2:aG K H b ys) (t:TwinA K H n xs ys):Twin K H (n+1) ↥a ↥b:=by
 let#[ds,ls,z1,z2]:=t;show#[.tuple ds,c8.tuple ls,?_,?_]
 . unfold bN;show#[a,xs,rfl,h1,z1]
 . unfold bN;show#[b,ys,rfl,h2,z2]
def Twin.lst {K:L7} {H:Hp} {n:Nat} {a b:L6} {xs ys:List V} (h1:aE K H a xs) (h2:aE K H b ys) (t:TwinA K H n xs ys):Twin K H (n+1) ↥a ↥b:=by
 let#[ds,ls,z1,z2]:=t;show#[.list ds,c8.list ls,?_,?_]
 . unfold bN;show#[a,xs,rfl,h1,z1]
 . unfold bN;show#[b,ys,rfl,h2,z2]
def Twin.eq {Q:VK} {x y:V} (h:Twin K H n x y) (hn:n<=64) (q:Q (.bl true) H):p9 K x y H Q:=by let#[d,l,z1,z2]:=h; exact EW hn l z1 z2 q
def fn_mk2 {nk:Str} {fa tr qC:L6} {fo:V} {ps:List Str} (rr:List RR) (h1:aG K H fa [.str nk,fo,↥qC,↥tr]) (h2:aG K H tr (rr.map λx=>V.ref x.w.r)) (h3:∀x∈rr,mW K H x) (h4:aG K H qC (ps.map V.str)) (h5:∀s∈ps,K12.Nm s) (h6:ps.length<=100) (h7:rr.length<=100) (wf:K13.Wf (rr.map λx=>x.w.k)) :
   F2.FnAt K H #[nk,fo,fa,qC,tr,ps,rr.map (·.w),rr.map (·.d)]:=by
 show#[h1,h4,by show aG K H tr ((rr.map (·.w)).map λw=>V.ref w.r); rw[Iq]; exact h2,λw hw=>?_,#[#[16,h1,h4,?_],λd hd=>?_,h5,h6,by show(rr.map (·.d)).length<=100; rw[HS]; exact h7],by show K13.Wf ((rr.map (·.w)).map (·.k)); rw[Iq]; exact wf,by show(rr.map (·.w)).length<=100; rw[HS]; exact h7]
 . let#[x,hx,rfl]:=IJ.mp hw;exact(h3 x hx).2.1
 . show aG K H tr ((rr.map (·.d)).map λd=>V.ref d.r);rw[Iq];have:(rr.map λx=>V.ref x.w.r)=rr.map ((λd=>V.ref d.r) ∘ (·.d)):=KQ λx hx=>by show V.ref x.w.r=V.ref x.d.r;rw[(h3 x hx).1]
   rw[<- this];exact h2
 . let#[x,hx,rfl]:=IJ.mp hd;exact(h3 x hx).2.2
abbrev rcopyV (r:L6) (nm:Str) (i:Int):RR:=#[#[r,"copy",""],#[r,(0),(0),⇑nm,[.int i]]]
def ok_copyV {r:L6} {nm:Str} {i:Int} (h:aG K H r [.str "copy",.str nm,.int i]) (hn:K12.Nm nm):mW K H (rcopyV r nm i) :=
 #[rfl,#[_,h,λz=>absurd z (by show ¬ (("copy":Str)="call"); decide +kernel)],#[#[_,h,.copy nm _],qE (at_i i),by show 1<=10; decide,λx hx=>by cases hx; exact hn]]
end Bg
namespace Wk
open PySem L2 Gx Fl K41 Bg
structure Cn where
 kv:List (List aF×V)
 rc:Int
end Wk
namespace Cw
open PySem L2 Gx Fl Wk
structure Own (Hb H:Hp) (O:List (Addr×HO)):Prop where
 b:aB Hb H
 at_:∀p∈O,H p.1=⇑p.2
 no:∀p∈O,Hb p.1=none
 nd:(O.map (·.1)).Nodup
section
variable {Hb H H2:Hp} {O A B:List (L6×HO)} {a:L6} {o o':HO}
def Own.get (h:Own Hb H O) (m:(a,o)∈O):H a=⇑o:=h.at_ _ m
def Own.apart (h:Own Hb H (A++(a,o)::B)):∀p∈A++B,p.1≠a:=λp hp z=>by
 have nd:=h.nd;rw[Hq,IF] at nd;have:=K2.mp nd;rcases IH.mp hp with q|q
 . exact this.2.2 _ (IJ.mpr #[p,q,rfl]) _ Hj z
 . exact(JP.mp this.2.1).1 (z ▸ IJ.mpr #[p,q,rfl])
def Own.set (h:Own Hb H (A++(a,o)::B)):Own Hb (upd H a o') (A++(a,o')::B):=by
 have ap:=h.apart;have na:Hb a=none:=h.no (a,o) (Hz _ Hj);show#[h.b.upd na,λp hp=>?_,λp hp=>?_,?_]
 . rcases IH.mp hp with q|q
   . rw[aM (ap p (Ik _ q))];exact h.at_ p (Ik _ q)
   . rcases Hh.mp q with q|q
     . rw[q]; exact aH
     . rw[aM (ap p (Hz _ q))];exact h.at_ p (Hz _ (Hv _ q))
 . rcases IH.mp hp with q|q
   . exact h.no p (Ik _ q)
   . rcases Hh.mp q with q|q
     . rw[q]; exact na
     . exact h.no p (Hz _ (Hv _ q))
 . have:=h.nd;rw[Hq,IF] at this ⊢;exact this
def Own.setK {H':Hp} (h:Own Hb H (A++(a,o)::B)) (s:aB (ers a H) H') (e:H' a=⇑o'):Own Hb H' (A++(a,o')::B):=by
 have ap:=h.apart;have na:Hb a=none:=h.no (a,o) (Hz _ Hj);have k:∀b u,b≠a->H b=⇑u->H' b=⇑u:=λb u hb hu=>s _ _ (by rw[ak hb]; exact hu);show#[λb u q=>k b u (λz=>by rw[z,na] at q; cases q) (h.b _ _ q),λp hp=>?_,(h.set (o':=o')).no,(h.set (o':=o')).nd];rcases IH.mp hp with q|q
 . exact k _ _ (ap p (Ik _ q)) (h.at_ p (Ik _ q))
 . rcases Hh.mp q with q|q
   . rw[q]; exact e
   . exact k _ _ (ap p (Hz _ q)) (h.at_ p (Hz _ (Hv _ q)))
def Own.perm {O':List (L6×HO)} (h:Own Hb H O) (p:O'.Perm O):Own Hb H O' :=
 #[h.b,λx hx=>h.at_ x (p.mem_iff.mp hx),λx hx=>h.no x (p.mem_iff.mp hx),(p.map (·.1)).nodup_iff.mpr h.nd]
def Own.sub {O':List (L6×HO)} (h:Own Hb H O) (s:O'.Sublist O):Own Hb H O' :=
 #[h.b,λx hx=>h.at_ x (s.subset hx),λx hx=>h.no x (s.subset hx),h.nd.sublist (s.map (·.1))]
def Own.keep (h:Own Hb H O) (s:aB H H2):Own Hb H2 O:=#[h.b\s,λp hp=>s _ _ (h.at_ p hp),h.no,h.nd]
def Own.grow (h:Own Hb H O) (s:aB H H2):Own (gr Hb H H2) H2 O :=
 #[By h.b s,λp hp=>s _ _ (h.at_ p hp),λp hp=>gr_own (h.at_ p hp) (h.no p hp),h.nd]
def Own.take {N:List (L6×HO)} (h:Own Hb H O) (s:aB H H2) (hn:∀p∈N,H p.1=none/\H2 p.1=⇑p.2) (nd:(N.map (·.1)).Nodup) :
   Own (N.foldr (λp G=>ers p.1 G) (gr Hb H H2)) H2 (O++N)/\aB Hb (N.foldr (λp G=>ers p.1 G) (gr Hb H H2)):=by
 have g:=h.grow s;have er:∀(L:List (L6×HO)) (G:Hp) (b:L6),(b∈L.map (·.1)->L.foldr (λp G=>ers p.1 G) G b=none)/\(b ∉ L.map (·.1)->L.foldr (λp G=>ers p.1 G) G b=G b):=by
   intro L G b
   induction L with
   | nil=>show#[λz=>(by cases z),λ_=>rfl]
   | cons p L ih =>
     rw[List.foldr_cons,IF];by_cases z:b=p.1
     . show#[λ_=>?_,λq=>absurd (z ▸ Hj) q];rw[z]; unfold L2.ers; rw[He rfl]
     . rw[ak z];show#[λq=>ih.1 ((Hh.mp q).resolve_left z),λq=>ih.2 λy=>q (Hv _ y)]
 have old:∀p∈O,p.1 ∉ N.map (·.1):=λp hp z=>by let#[n,hn1,e]:=IJ.mp z;have:=(hn n hn1).1;rw[e,h.at_ p hp] at this;cases this
 show#[#[λb u q=>?_,λp hp=>?_,λp hp=>?_,?_],λb u q=>?_]
 . by_cases z:b∈N.map (·.1)
   . rw[(er N _ b).1 z] at q; cases q
   . rw[(er N _ b).2 z] at q; exact g.b _ _ q
 . rcases IH.mp hp with q|q
   . exact g.at_ p q
   . exact(hn p q).2
 . rcases IH.mp hp with q|q
   . rw[(er N _ p.1).2 (old p q)]; exact g.no p q
   . exact(er N _ p.1).1 (IJ.mpr #[p,q,rfl])
 . rw[Hq];refine K2.mpr #[h.nd,nd,λx hx y hy z=>?_];let#[p,hp,rfl]:=IJ.mp hx;exact old p hp (z ▸ hy)
 . rw[(er N _ b).2 λz=>?_]
   . exact gr_same h.b _ _ q
   . let#[n,hn1,e]:=IJ.mp z;have:=(hn n hn1).1;rw[e,h.b _ _ q] at this;cases this
end
structure Wr where
 (a dx st sd ct fl sp mp:Addr)
structure Fm where
 (a dx bx:Addr)
 fn:Str
 spot:Nat
 kvs:List (aF×V)
 first:Nat
abbrev wF (w:Wr) (oc:V) (rc:Int):List (Str×V):=[("flows",↥w.fl),("stack",↥w.st),("outcome",oc),("sendings",↥w.sd),("contents",↥w.ct),("records",.int rc)]
abbrev wG (w:Wr) (oc:V) (rc:Int) (wt:L6):List (Str×V):=[("flows",↥w.fl),("stack",↥w.st),("outcome",oc),("sendings",↥w.sd),("contents",↥w.ct),("records",.int rc),("spots_of",↥w.sp),("marks_of",↥w.mp),("waiting",↥wt)]
abbrev fF (f:Fm):List (Str×V):=[("function",.str f.fn),("spot",.int f.spot),("boxes",↥f.bx),("first",.int f.first)]
abbrev fO (cF:L6) (f:Fm):List (L6×HO):=[(f.a,.ins cF f.dx (fF f)),(f.bx,.dK f.kvs)]
abbrev objs (cW cF:L6) (w:Wr) (wt:L6) (fs:List Fm) (oc:V) (sent:List V) (cn:Cn) (wl:List V):List (L6×HO) :=
 (w.a,.ins cW w.dx (wG w oc cn.rc wt))::(w.st,.lst (fs.map λf:Fm=>V.ref f.a))::(w.sd,.lst sent)::(w.ct,.dT cn.kv)::(wt,.lst wl)::fs.flatMap (fO cF)
abbrev bB (cW cF:L6) (Hb H:Hp) (w:Wr) (wt:L6) (fs:List Fm) (oc:V) (sent:List V) (cn:Cn) (wl:List V):Prop:=Own Hb H (objs cW cF w wt fs oc sent cn wl)
variable {f:Fm}
section
variable {cW cF:L6} {Hb H H2:Hp} {w:Wr} {wt:L6} {fs:List Fm} {oc:V} {sent:List V} {cn:Cn} {wl:List V}
def bB.o (h:bB cW cF Hb H w wt fs oc sent cn wl):H w.a=⇑(.ins cW w.dx (wG w oc cn.rc wt)):=h.get (by unfold objs; simp)
def bB.st (h:bB cW cF Hb H w wt fs oc sent cn wl):H w.st=⇑(.lst (fs.map λf:Fm=>V.ref f.a)):=h.get (by unfold objs; simp)
def bB.wts (h:bB cW cF Hb H w wt fs oc sent cn wl):H wt=⇑(.lst wl):=h.get (by unfold objs; simp)
def bB.fr (h:bB cW cF Hb H w wt fs oc sent cn wl) (hf:f∈fs):H f.a=⇑(.ins cF f.dx (fF f))/\H f.bx=⇑(.dK f.kvs):=by
 have k:∀p∈fO cF f,p∈objs cW cF w wt fs oc sent cn wl:=λp hp=>by unfold objs;have:p∈fs.flatMap (fO cF):=Km.mpr #[f,hf,hp];simp only[Hh];exact .inr (.inr (.inr (.inr (.inr this))))
 show#[h.get (k _ (by unfold fO; simp)),h.get (k _ (by unfold fO; simp))]
def bB.nob (h:bB cW cF Hb H w wt fs oc sent cn wl) (hf:f∈fs):Hb f.bx=none:=by refine h.no (f.bx,.dK f.kvs) ?_;unfold objs;have:(f.bx,HO.dK f.kvs)∈fs.flatMap (fO cF):=Km.mpr #[f,hf,by unfold fO; simp];simp only[Hh];exact .inr (.inr (.inr (.inr (.inr this))))
def bB.keep (h:bB cW cF Hb H w wt fs oc sent cn wl) (s:aB H H2):bB cW cF Hb H2 w wt fs oc sent cn wl:=Own.keep h s
def bB.out {v:V} (h:bB cW cF Hb H w wt fs oc sent cn wl):bB cW cF Hb (upd H w.a (.ins cW w.dx (wG w v cn.rc wt))) w wt fs v sent cn wl:=Own.set (A:=[]) h
def bB.wait {xs:List V} (h:bB cW cF Hb H w wt fs oc sent cn wl):bB cW cF Hb (upd H wt (.lst xs)) w wt fs oc sent cn xs :=
 Own.set (A:=[(w.a,.ins cW w.dx (wG w oc cn.rc wt)),(w.st,.lst (fs.map λf:Fm=>V.ref f.a)),(w.sd,.lst sent),(w.ct,.dT cn.kv)]) h
def bB.goto {r:Nat} (h:bB cW cF Hb H w wt (fs++[f]) oc sent cn wl):bB cW cF Hb (upd H f.a (.ins cF f.dx (fF { f with spot:=r }))) w wt (fs++[{ f with spot:=r }]) oc sent cn wl:=by
 have e:∀g:Fm,g.a=f.a->objs cW cF w wt (fs++[g]) oc sent cn wl=((w.a,.ins cW w.dx (wG w oc cn.rc wt))::(w.st,.lst ((fs.map λf:Fm=>V.ref f.a)++[V.ref f.a]))::(w.sd,.lst sent)::(w.ct,.dT cn.kv)::(wt,.lst wl)::fs.flatMap (fO cF))++(g.a,.ins cF g.dx (fF g))::[(g.bx,.dK g.kvs)]:=λg hg=>by unfold objs;rw[IZ,Hq,<- hg];rfl
 unfold bB at h ⊢;rw[e f rfl] at h;rw[e { f with spot:=r } rfl];exact Own.set h
def bB.boxesK {ks:List (aF×V)} {H2:Hp} (h:bB cW cF Hb H w wt (fs++[f]) oc sent cn wl) (s:aB (ers f.bx H) H2) (e2:H2 f.bx=⇑(.dK ks)):bB cW cF Hb H2 w wt (fs++[{ f with kvs:=ks }]) oc sent cn wl:=by
 have e:∀g:Fm,g.a=f.a->objs cW cF w wt (fs++[g]) oc sent cn wl=((w.a,.ins cW w.dx (wG w oc cn.rc wt))::(w.st,.lst ((fs.map λf:Fm=>V.ref f.a)++[V.ref f.a]))::(w.sd,.lst sent)::(w.ct,.dT cn.kv)::(wt,.lst wl)::(fs.flatMap (fO cF)++[(g.a,.ins cF g.dx (fF g))]))++(g.bx,.dK g.kvs)::[]:=λg hg=>by unfold objs;rw[IZ,Hq,<- hg];show _=_::_::_::_::_::((_++_)++_);rw[Ib];rfl
 unfold bB at h ⊢;rw[e f rfl] at h;rw[e { f with kvs:=ks } rfl];exact Own.setK h s e2
def bB.pop (h:bB cW cF Hb H w wt (fs++[f]) oc sent cn wl):bB cW cF Hb (upd H w.st (.lst (fs.map λf:Fm=>V.ref f.a))) w wt fs oc sent cn wl:=by have h1:Own Hb (upd H w.st (.lst (fs.map λf:Fm=>V.ref f.a))) ([(w.a,.ins cW w.dx (wG w oc cn.rc wt))]++(w.st,.lst (fs.map λf:Fm=>V.ref f.a))::(w.sd,.lst sent)::(w.ct,.dT cn.kv)::(wt,.lst wl)::(fs++[f]).flatMap (fO cF)):=Own.set (o:=.lst ((fs++[f]).map λf:Fm=>V.ref f.a)) h;refine Own.sub h1 ?_;rw[IZ];exact .cons_cons _ (.cons_cons _ (.cons_cons _ (.cons_cons _ (.cons_cons _ (List.sublist_append_left _ _)))))
def bB.push (h:bB cW cF Hb H w wt fs oc sent cn wl) (s:aB H H2) (ha:H f.a=none) (hb:H f.bx=none) (ne:f.a≠f.bx) (h1:H2 f.a=⇑(.ins cF f.dx (fF f))) (h2:H2 f.bx=⇑(.dK f.kvs)) :
   ∃Hb',bB cW cF Hb' (upd H2 w.st (.lst ((fs++[f]).map λf:Fm=>V.ref f.a))) w wt (fs++[f]) oc sent cn wl/\aB Hb Hb':=by
 have k:=Own.take (N:=fO cF f) h s (λp hp=>by
   unfold fO at hp;simp only[Hh,ID,or_false] at hp;rcases hp with rfl|rfl
   . show#[ha,h1]
   . show#[hb,h2]) (by unfold fO; simp [ne])
 show#[_,?_,k.2];have k1:=k.1;have e:objs cW cF w wt fs oc sent cn wl++fO cF f=[(w.a,.ins cW w.dx (wG w oc cn.rc wt))]++(w.st,.lst (fs.map λf:Fm=>V.ref f.a))::(w.sd,.lst sent)::(w.ct,.dT cn.kv)::(wt,.lst wl)::(fs++[f]).flatMap (fO cF):=by unfold objs;rw[IZ];simp
 rw[e] at k1;exact Own.set k1
def bB.anew {l:L6} {xs:List V} (h:bB cW cF Hb H w wt fs oc sent cn wl) (s:aB H H2) (hl:H l=none) (h2:H2 l=⇑(.lst xs)) :
   ∃Hb',bB cW cF Hb' (upd H2 w.a (.ins cW w.dx (wG w oc cn.rc l))) w l fs oc sent cn xs/\aB Hb Hb':=by
 have k:=Own.take (N:=[(l,.lst xs)]) h s (λp hp=>by rw[IC.mp hp];show#[hl,h2]) 0x6
 show#[_,?_,k.2];have k1:=k.1;have k2:Own _ _ ([]++(w.a,HO.ins cW w.dx (wG w oc cn.rc wt))::((w.st,.lst (fs.map λf:Fm=>V.ref f.a))::(w.sd,.lst sent)::(w.ct,.dT cn.kv)::(wt,.lst wl)::fs.flatMap (fO cF)++[(l,.lst xs)])):=k1;have k3:=Own.set (o':=.ins cW w.dx (wG w oc cn.rc l)) k2;refine Own.perm (Own.sub k3 (O':=(w.a,.ins cW w.dx (wG w oc cn.rc l))::(w.st,.lst (fs.map λf:Fm=>V.ref f.a))::(w.sd,.lst sent)::(w.ct,.dT cn.kv)::(fs.flatMap (fO cF)++[(l,.lst xs)])) ?_) ?_
 . exact .cons_cons _ (.cons_cons _ (.cons_cons _ (.cons_cons _ (.cons _ (List.Sublist.refl _)))))
 . unfold objs;refine .cons _ (.cons _ (.cons _ (.cons _ ?_)));exact(List.perm_append_singleton _ _).symm
def bB.grow (h:bB cW cF Hb H w wt fs oc sent cn wl) (s:aB H H2):bB cW cF (gr Hb H H2) H2 w wt fs oc sent cn wl:=Own.grow h s
end
end Cw
namespace PySem
open Sem (wp)
open AutoSeq1 (wpAny_loadPart')
def BL:typeLookup (.type "enumerate") "keys"=pure none:=by rw[typeLookup_type,builtinLookup_eq_fast]; kernel_rfl
def FN:typeLookup (.type "enumerate") "__getattr__"=pure none:=by rw[typeLookup_type,builtinLookup_eq_fast]; kernel_rfl
def D3:entryFor table "enumerate.__getattribute__"=⇑Builtin.«object.__getattribute__» :=
 entryFor_alias (id':="object.__getattribute__") (by kernel_rfl) 0x4 0x4 (by kernel_rfl)
def Gy (a:L6) (xs:Array K') (sl:Array (Hl K')) (name:Str) (u:Tok) (hmiss:typeLookup (.type "enumerate") name=pure none) (hname:(["__module__","__name__","__qualname__","__doc__","__annotations__"]:List Str).contains name=false) (hsz:name.length+100<=sizeLine:=by size_fits) :
   Meets (Builtin.«object.__getattribute__» #[[↥a,.str name u],[]]) (λA R s=>s.heap.get? a=some { cls:=.type "enumerate",dict:=none,data:=.fields xs,slots:=sl }/\raisesAttr ↥a name A R s) :=
 Meets.of_wp λprog w A R s hs=>by
   let#[hp,g,d,tk,os]:=s;let#[hx,hs]:=hs;have hT:(⟨hp,g,d,tk,os⟩:L5).TypeIs ↥a "enumerate":=#[_,hx,rfl]
   unfold Builtin.«object.__getattribute__»
   repeat (any_goals (first|assumption|wp_step))
   simp only[hname,JA,if_false]
   repeat (any_goals (first|assumption|wp_step))
   exact wpAny_raiseAttrError hs.1 hs.2 (attrMsg_fits 0x4 hsz)
def E5 {prog:Program} {w:World} {A:Around} {E:K'->L5->Prop} {s:L5} {a:L6} {o:Obj} {xs:Array K'} {Q:Hl K'->L5->Prop}
   (hx:s.heap.get? a=⇑o) (hc:o.cls=.type "enumerate") (hdat:o.data=.fields xs) (hd:o.dict=none) (hA:A.handled=none)
   (h:∀h' tk,(∀b ob,s.heap.get? b=⇑ob->h'.get? b=⇑ob)->Q none { s with heap:=h',toks:=tk }) :
   wpAny 0x3 A (getAttr? ↥a "keys") Q E s:=by
 let#[c,dct,dat,sl]:=o;simp only at hc hdat hd;subst hc hdat hd;let#[hp,g,d,tk,os]:=s;have hT:∀tk',(⟨hp,g,d,tk',os⟩:L5).TypeIs ↥a "enumerate":=λ_=>#[_,hx,rfl]
 have f1:=sub_AttributeError;have f3:=Ji.lookup;have f4:=Ji.bind ↥a;have f5:=FN;unfold getAttr? getAttrBy? getAttrBy
 repeat (any_goals (first|assumption|exact hT _|((with_reducible show wpAny _ _ (call (Value.builtin "enumerate.__getattribute__") _ _) _ _ _); refine call_meets Ji (hT _) D3 (F.args_enumerate_getattribute_2 _ _) (Gy a xs sl "keys" _ BL 0x4 0x4) #[hx,hA,λh' tk' e hx'=>?_])|wp_step))
 let#[t',u',he]:=hx'.there
 try (show wpAny _ _ (getattributeRaised _ _ _ _ _ _ _) _ _ _)
 try unfold getattributeRaised
 repeat (any_goals (first|assumption|wp_step))
 all_goals (first|exact h _ _ hx'.keeps|trace_state)
noncomputable abbrev gD (h:Heap) (e it T:L6) (i:Int) (fb:Bool) (item:K'):Prop :=
 h.get? e=some { cls:=.type "enumerate",dict:=none,data:=.fields (List.toArray [rawInt T,.bool fb,↥it,rawInt i,.none,item]),slots:=0xA }
variable {it:L6} {i:Nat}
section
variable {prog:Program} {w:World} {A:Around} {E:K'->L5->Prop} {s:L5}
def Df {e T:L6}{i:Int} {fb:Bool} {item:K'} {Q:Bool->L5->Prop} (zZ:gD s.heap e it T i fb item) (aT:∃o,s.heap.get? T=⇑o)
   (hQ:∀h',gD h' e it T i true item->Heap.SameBut e s.heap h'->Q false { s with heap:=h' }):wpAny 0x3 A (Builtin.SmallTypes.ownedTupleIsFree ↥e) Q E s:=by
 unfold Builtin.SmallTypes.ownedTupleIsFree;refine HR (IR zZ rfl (x:=rawInt T) rfl ?_);show wpAny _ _ (loadIfAlive _ >>= _) _ _ _;refine HR (DM ?_);let#[o,ho]:=aT;rw[show(T:Int).toNat=T from rfl,ho];rw[HX 0x6];refine HR (IR zZ rfl (x:=.bool fb) rfl ?_);cases fb with
 | true=>exact Ha (hQ _ zZ #[rfl,λ_ _=>rfl])
 | false=>exact HR (Iu zZ 0x6 λh₁ zZ₁ hs₁=>Ha (hQ h₁ zZ₁ hs₁))
def FF {e l T:L6}{fb:Bool} {items:Array K'} {x item:K'} {Q:K'->L5->Prop}
   (he:gD s.heap e it T i fb item) (aT:∃o,s.heap.get? T=⇑o) (hTe:T≠e) (hTi:T≠it) (hit:s.heap.IsListIter it l i) (hl:s.heap.IsList l items) (hx:items[i]?=⇑x) (hne:e≠it)
   (hQ:∀h',gD h' e it T ((i:Int)+1) true item->h'.IsListIter it l (i+1) ->
     h'.get? s.heap.objs.size=some { cls:=.type "tuple",data:=.seq (List.toArray [.int i s.toks,x]) }->h'.objs.size=s.heap.objs.size+1 ->
     (∀b o,b≠e->b≠it->s.heap.get? b=⇑o->h'.get? b=⇑o)->Q ↥s.heap.objs.size { s with heap:=h',toks:=s.toks+1 }) :
   wpAny 0x3 A (Builtin.«enumerate.__next__» #[[↥e],[]]) (λfin s'=>∃v,fin=.done (.ret v)/\Q v s') E s:=by
 let#[hp,g,d,tk,os]:=s;show wpAny _ _ (field ↥e 2 >>= _) _ _ _;refine HR (IR he rfl (x:=↥it) rfl ?_);refine HR (wpAny_nextOf_list_item hit hl hx λh₁ hit₁ hs₁=>?_)
 replace hs₁:Heap.SameBut it hp h₁:=hs₁
 have he₁:gD h₁ e it T i fb item:=(hs₁.2 e hne)\he;show wpAny _ _ (field ↥e 3 >>= _) _ _ #[h₁,g,d,tk,os];refine HR (IR he₁ rfl (x:=rawInt i) rfl ?_);show wpAny _ _ (field ↥e 4 >>= _) _ _ #[h₁,g,d,tk,os];refine HR (IR he₁ rfl (x:=.none) rfl ?_);show wpAny _ _ (mkInt i >>= _) _ _ #[h₁,g,d,tk,os];refine HR (wpAny_mkInt ?_);show wpAny _ _ (setField ↥e 3 (rawInt ((i:Int)+1)) >>= _) _ _ #[h₁,g,d,tk+1,os];refine HR (Iu he₁ 0x6 λh₂ he₂ hs₂=>?_)
 replace hs₂:Heap.SameBut e h₁ h₂:=hs₂
 replace he₂:gD h₂ e it T ((i:Int)+1) fb item:=he₂
 show wpAny _ _ (setField ↥e 4 .none >>= _) _ _ #[h₂,g,d,tk+1,os];refine HR (Iu he₂ 0x6 λh₃ he₃ hs₃=>?_)
 replace hs₃:Heap.SameBut e h₂ h₃:=hs₃
 replace he₃:gD h₃ e it T ((i:Int)+1) fb item:=he₃
 show wpAny _ _ (newTuple [.int i tk,x] >>= _) _ _ #[h₃,g,d,tk+1,os];refine HR (wpAny_newTuple ?_);have he₄:gD (h₃.push { cls:=.type "tuple",data:=.seq (List.toArray [.int i tk,x]) }) e it T ((i:Int)+1) fb item:=HW _ he₃;generalize hh₄:h₃.push { cls:=.type "tuple",data:=.seq (List.toArray [.int i tk,x]) }=h₄ at he₄;have hsz:h₃.objs.size=hp.objs.size:=by rw[hs₃.1,hs₂.1,hs₁.1]
 have hel:e<hp.objs.size:=Hm he;have ht₄:h₄.get? hp.objs.size=some { cls:=.type "tuple",data:=.seq (List.toArray [.int i tk,x]) }:=by rw[<- hh₄,<- hsz]; exact Hs _ rfl
 have hz₄:h₄.objs.size=hp.objs.size+1:=by rw[<- hh₄,Iy,hsz]
 have hk₄:∀b o,b≠e->b≠it->hp.get? b=⇑o->h₄.get? b=⇑o:=λb o hbe hbi hb=>by rw[<- hh₄]; exact HW _ (hs₃.extBut b o hbe (hs₂.extBut b o hbe (hs₁.extBut b o hbi hb)))
 have hit₄:h₄.IsListIter it l (i+1):=by rw[<- hh₄]; let#[o,ho,r]:=(hit₁.extBut hs₂.extBut (Ne.symm hne)).extBut hs₃.extBut (Ne.symm hne); show#[o,HW _ ho,r]
 have aT₄:∃o,h₄.get? T=⇑o:=by let#[o,ho]:=aT; show#[o,hk₄ T o hTe hTi ho]
 show wpAny _ _ (Builtin.SmallTypes.ownedTupleIsFree ↥e >>= _) _ _ #[h₄,g,d,tk+1,os];rw[hsz];refine HR (Df (s:=#[h₄,g,d,tk+1,os]) he₄ aT₄ λh₅ he₅ hs₅=>?_)
 replace hs₅:Heap.SameBut e h₄ h₅:=hs₅
 rw[HX 0x6];refine Ha #[5,hQ h₅ he₅ (hit₄.extBut hs₅.extBut (Ne.symm hne)) (hs₅.extBut _ _ (JC hel) ht₄) (by rw[hs₅.1,hz₄]) λb o hbe hbi hb=>hs₅.extBut b o hbe (hk₄ b o hbe hbi hb)]
abbrev gN (h:Heap) (e it:L6) (i:Nat):Hl L6->Prop
 | none=>∃old,IsEnum h e it i old
 | some T=>(∃fb item,gD h e it T i fb item)/\∃o,h.get? T=⇑o
def gN.lt {h:Heap} {e:L6}{m:Hl L6} (z:gN h e it i m):e<h.objs.size:=by
 cases m with
 | none=>let#[_,z]:=z; exact Hm z
 | some T=>obtain⟨⟨_,_,z⟩,_⟩:=z; exact Hm z
def gN.at {h h':Heap} {e:L6}{m:Hl L6} (z:gN h e it i m) (k:∀o,h.get? e=⇑o->h'.get? e=⇑o) (kT:∀T,m=⇑T->∀o,h.get? T=⇑o->h'.get? T=⇑o):gN h' e it i m:=by
 cases m with
 | none=>let#[old,z]:=z; show#[old,k _ z]
 | some T=>obtain⟨⟨fb,item,z⟩,o,ho⟩:=z; show#[#[fb,item,k _ z],o,kT T rfl _ ho]
def Fg {e l:L6}{m:Hl L6} {items:Array K'} {x:K'} {Q:Hl K'->L5->Prop}
   (he:gN s.heap e it i m) (hm:∀T,m=⇑T->T≠e/\T≠it) (hit:s.heap.IsListIter it l i) (hl:s.heap.IsList l items) (hx:items[i]?=⇑x) (hne:e≠it)
   (hQ:∀h',gN h' e it (i+1) ⇑(m.getD s.heap.objs.size)->h'.IsListIter it l (i+1) ->
     h'.get? s.heap.objs.size=some { cls:=.type "tuple",data:=.seq (List.toArray [.int i s.toks,x]) }->h'.objs.size=s.heap.objs.size+1 ->
     (∀b o,b≠e->b≠it->s.heap.get? b=⇑o->h'.get? b=⇑o)->Q ⇑↥s.heap.objs.size { s with heap:=h',toks:=s.toks+1 }) :
   wpAny 0x3 A (pyNext ↥e) Q E s:=by
 cases m with
 | none =>
   let#[old,he]:=he;exact wpAny_pyNext_enum_item he hit hl hx hne λh' a b c d k=>hQ h' #[#[false,x,a],_,c] b c d k
 | some T =>
   obtain⟨⟨fb,item,he⟩,o,ho⟩:=he;let#[t1,t2]:=hm T rfl;have hT:s.TypeIs ↥e "enumerate":=#[_,he,rfl]
   unfold pyNext;exact HR (K7 (wpAny_callSpecial?_slot (name:=Str.ofString "__next__") hT Jn
     (Ix Jn hT F.entry_enumerate_next
       (FF he #[o,ho] t1 t2 hit hl hx hne λh' a b c d k=>Ha (hQ h' #[#[true,item,a],o,k T o t1 t2 ho] b c d k)) (Kt _))))
def Bj {e l:L6}{m:Hl L6} {items:Array K'} {Q:Hl K'->L5->Prop} (hh:A.handled=none)
   (he:gN s.heap e it i m) (hit:s.heap.IsListIter it l i) (hl:s.heap.IsList l items) (hx:items[i]?=none)
   (hQ:∀h',Heap.ExtBut it s.heap h'->Q none { s with heap:=h' }):wpAny 0x3 A (pyNext ↥e) Q E s:=by
 cases m with
 | none =>
   let#[old,he]:=he;exact wpAny_pyNext_enum_end hh he hit hl hx hQ
 | some T =>
   obtain⟨⟨fb,item,he⟩,o,ho⟩:=he;have hT:s.TypeIs ↥e "enumerate":=#[_,he,rfl]
   unfold pyNext;refine HR (K7 (wpAny_callSpecial?_slot (name:=Str.ofString "__next__") hT Jn
     (Ix Jn hT F.entry_enumerate_next ?_ (Kt _))))
   show wpAny _ _ (field ↥e 2 >>= _) _ _ _;refine HR (IR he rfl (x:=↥it) rfl ?_);refine HR (wpAny_nextOf_list_end hh hit hl hx λh' x he' hx'=>?_);let#[o,ho,hc]:=hx';refine HR (wpAny_isInstance (T:="StopIteration") (b:=true) #[o,ho,hc] isSubtype_stop ?_);exact Ha (hQ _ he')
end
end PySem
namespace L2
open PySem PySem.Spec PyProof.Rows
section
variable {X:Cx} {pins:List (L6×Obj)} {σ:St} {H:Hp}
abbrev cm (n:Nat):List aF:=(List.range n).map λi:Nat=>(Sum.inl (i:Int):aF)
abbrev bX (ys:List V):List (aF×V):=((cm ys.length).zip ys).foldl 0x7 []
def AL {n i:Nat} (h:i<n):(cm n)[i]?=⇑(Sum.inl (i:Int)):=by unfold cm; simp [h]
def sU (n:Nat):(cm n).length=n:=by unfold cm; simp
def E2 {A:Around} {R:Result->L5->Prop} {D e it l:L6} {ys:List V} (hA:A.handled=none) (hne:e≠it)
   (h2:aE X.K H l ys) (hD:H D=none) (hz:ys.length<=100000) (nD:∀b∈[e,it],b≠D) (fp:∀b∈[e,it],∀H',H' b=none->dq X pins H' b)
   (hR:∀s' H',Inv X pins σ H' s'->aB H H'->H' D=⇑(.dK (bX ys))->R (.ok (.ret .none)) s') :
   ∀(k i:Nat) (t:Tok) (s:L5) (Hi:Hp) (m:Hl L6),ys.length - i=k->i<=ys.length->Inv X pins σ Hi s->aB H Hi->Hi D=⇑(.dK ((((cm ys.length).zip ys).take i).foldl 0x7 [])) ->
     gN s.heap e it i m->(∀T,m=⇑T->∃xs,Hi T=⇑(.tup xs))->s.heap.IsListIter it l i->(∀b∈[e,it],Hi b=none) ->
     codeAny 0x2 A (.builtin "dict.update.loop" #[[↥D,↥e,.int (i:Nat) t,.none],[]]) R s:=by
 have flen:∀(l:List (aF×V)) (acc:List (aF×V)),(l.foldl 0x7 acc).length<=acc.length+l.length:=by
   intro l
   induction l with
   | nil=>intro acc; simp
   | cons x r ih =>
     intro acc;rw[Jf];have h1:=ih (putK acc x.1 x.2);have h2:=dI acc x.1 x.2;simp only[II]
     lia
 have big:(100000:Nat)<sizeLine:=by decide
 have hzl:((cm ys.length).zip ys).length=ys.length:=by rw[Jv,sU]; lia
 intro k
 induction k with
 | zero =>
   intro i t s Hi m hk hi I sm eD zs hm p2 fr;have e':i=ys.length:=by lia
   rw[Ic (by rw[hzl]; lia)] at eD;let#[is2,r2,q2,_]:=I.list (sm.seq h2);have hl2:=r2.length;refine KG mw ?_;rw[Around.under_plainId gY _];show wpAny _ A.in1 (pyNext ↥e >>= _) _ _ s;refine HR (Bj (A:=A.in1) hA zs p2 q2.isList (by simp; lia) λh' hk=>?_);have I1:Inv X pins σ Hi { s with heap:=h' }:=I.turnedL (t':=s.toks) (ch:=[e,it]) (λb o hb q=>hk b o (λzz=>hb (by simp [zz])) q) λb hb=>fp b hb Hi (fr b hb);show wpAny _ _ (Builtin.Dict.addKeywords D [] >>= _) _ _ _;exact HR (Ha (Ha (hR _ _ I1 sm eD)))
 | succ k ih =>
   intro i t s Hi m hk hi I sm eD zs hm p2 fr;have hlt:i<ys.length:=by lia
   let#[is2,r2,q2,_]:=I.list (sm.seq h2);let#[v,hv,rv]:=r2.get (show ys[i]?=some ys[i] by simp [hlt]);have hp:∀b∈[e,it],∀T,m=⇑T->T≠b:=λb hb T eT q=>by let#[xs,hT]:=hm T eT;rw[q,fr b hb] at hT;cases hT
   refine KG mw ?_;rw[Around.under_plainId gY _];show wpAny _ A.in1 (pyNext ↥e >>= _) _ _ s;refine HR (Fg (A:=A.in1) zs (λT eT=>#[hp e 0x6 T eT,hp it 0x6 T eT]) p2 q2.isList ↑hv hne λh' zs' p2' pr hs' hk=>?_);have hN:Hi s.heap.objs.size=none:=I.hok.fresh (HY _);have ru:aX (kV (Sum.inl (i:Int):aF)) (Value.int i s.toks):=#[s.toks,rfl]
   have I1:Inv X pins σ (upd Hi s.heap.objs.size (.tup [kV (Sum.inl (i:Int):aF),ys[i]])) { s with heap:=h',toks:=s.toks+1 }:=I.turnLaid (t':=s.toks+1) (ch:=[e,it]) (λb o hb q=>hk b o (λzz=>hb (by simp [zz])) (λzz=>hb (by simp [zz])) q) (λb hb=>fp b hb Hi (fr b hb)) (HY _)
     #[by show 2<=sizeLine; decide,[.int i s.toks,v],.cons ru (.cons rv .nil),#[_,pr,13]]
   have nN:∀b∈[e,it],b<s.heap.objs.size:=by
     intro b hb;simp only[Hh,ID,or_false] at hb;rcases hb with z|z
     . rw[z]; exact zs.lt
     . rw[z]; let#[o,ho,_]:=p2; exact Hm ho
   have nDN:D≠s.heap.objs.size:=λq=>by rw[q,hN] at eD; cases eD
   have eD1:upd Hi s.heap.objs.size (.tup [kV (Sum.inl (i:Int):aF),ys[i]]) D=⇑(.dK ((((cm ys.length).zip ys).take i).foldl 0x7 [])):=by rw[aM nDN]; exact eD
   refine HR (IW (HR (wpAny_tryCatch ?_)));show wpAny _ _ (Builtin.Dict.pairItems ↥s.heap.objs.size) _ _ _;unfold Builtin.Dict.pairItems;refine HR (Jl (T:="tuple") #[_,pr,rfl] ?_);rw[He #[]];refine HR ?_;show wpAny _ _ (load s.heap.objs.size >>= _) _ _ _;refine HR (wpAny_load pr ?_);refine Ha (Ha ?_);show wpAny _ _ (holding [Value.int i s.toks,v] (dictSet D (Value.int i s.toks) v)) _ _ _;refine IW ?_;let#[z',hd,vs,rel,dd]:=jR I1.hok eD1;have hl1:=flen (((cm ys.length).zip ys).take i) [];have hl2:(((cm ys.length).zip ys).take i).length<=((cm ys.length).zip ys).length:=by rw[IE]; lia
   simp only[JS,KH] at hl1;have hzv:vs.length<=sizeLine:=by rw[<- rel.length]; exact z'
   refine wpAny_dictSet_pairs (hsz:=hzv) (gC ru) dd λh2' dd2 hs2=>?_;have he:∃q,h2'.get? D=⇑q:=by let#[q,_,_,hq,_]:=dd2; show#[q,hq]
   have hl3:(putK ((((cm ys.length).zip ys).take i).foldl 0x7 []) (Sum.inl (i:Int):aF) ys[i]).length<=sizeLine:=by exact Hu (dI _ _ _) (Hu (Nat.succ_le_succ (Hu hl1 hl2)) ∅)
   have I2:=ir (t':=({ s with heap:=h',toks:=s.toks+1 }:L5).toks+1) I1 (by rw[eD1]; exact True.intro) hs2 he (jh hl3 hd (rel.put (Sum.inl (i:Int):aF) rv) dd2);have e3:(((cm ys.length).zip ys).take (i+1)).foldl 0x7 []=putK ((((cm ys.length).zip ys).take i).foldl 0x7 []) (Sum.inl (i:Int):aF) ys[i]:=by
     have hg:((cm ys.length).zip ys)[i]?=⇑((Sum.inl (i:Int):aF),ys[i]):=by rw[Jt];show#[AL hlt,by simp [hlt]]
     rw[IM,IX,hg];rfl
   rw[<- e3] at I2;refine Ha #[plainId_quiet gY _,?_];have up:∀c,c≠D->∀o,h'.get? c=⇑o->h2'.get? c=⇑o:=λc hc o e=>(hs2.2 c hc)\e;refine ih (i+1) 0 _ _ ⇑(m.getD s.heap.objs.size) ∅ ∅ I2 (aB.upd (sm\(aB.new hN)) hD) aH (zs'.at (up _ (nD e 0x6)) λT eT=>up T ?_) (λT eT=>?_) ?_ (λb hb=>?_)
   . cases eT;cases m with
     | none=>exact λq=>nDN q.symm
     | some T =>
       let#[xs,hT]:=hm T rfl;intro q;rw[show T=D from q,eD] at hT;cases hT
   . cases eT;cases m with
     | none=>show#[[kV (Sum.inl (i:Int):aF),ys[i]],by show upd (upd Hi s.heap.objs.size _) D _ s.heap.objs.size=_; rw[aM (λq=>nDN q.symm)]; exact aH]
     | some T =>
       let#[xs,hT]:=hm T rfl;show#[xs,?_];show upd (upd Hi s.heap.objs.size _) D _ T=_;rw[aM (show T≠D from λq=>by rw[q,eD] at hT; cases hT)];rw[aM (show T≠s.heap.objs.size from λq=>by rw[q,hN] at hT; cases hT)];exact hT
   . let#[o,ho,r]:=p2';show#[o,up _ (nD it 0x6) _ ho,r]
   . rw[aM (nD b hb),aM (IG (nN b hb))];exact fr b hb
abbrev wc (K:L7):List V->Hp->VK->Prop:=λxs H Q=>∃(l:L6) (ys:List V),xs=[↥l]/\aE K H l ys/\ys.length<=100000 /\
 ∀d H',H d=none->aB H H'->H' d=⇑(.dK (bX ys))->Q ↥d H'
def Dw {s:L5} {l:L6} {Q:VK} (hc:X.calm=true) (I:Inv X pins σ H s) (h:wc X.K [↥l] H Q) :
   wpAny 0x2 X.A (call (.type "enumerate") [↥l]) (λv s1=>wpAny 0x2 X.A (call (.type "dict") [v]) (EP X pins σ Q) X.xe s1) X.xe s:=by
 let#[l',ys,e,h2,hz,q]:=h;cases e;let#[is2,v2,p2,_]:=I.list h2;refine call_enumerate_list p2.isList λh' hen hit _ hk=>?_;have hA:=I.ok.hd hc;generalize hs1:({ s with heap:=h' }:L5)=s1;have ehp:s1.heap=h':=by rw[<- hs1]
 have I0:Inv X pins σ H s1:=by rw[<- hs1]; exact I.kept (t':=s.toks) hk
 have hD:H s1.heap.objs.size=none:=I0.hok.fresh (HY _);have I1:Inv X pins σ (upd H s1.heap.objs.size (.dK [])) { s1 with heap:=s1.heap.push { cls:=.type "dict",data:=.dict 0xA } } :=
   I0.laid (a:=s1.heap.objs.size) (o:=.dK []) (t':=s1.toks) (λ_ _ q=>HW _ q) (HY _) (lY s1.heap I0.big)
 refine callType_codes (Q₁:=λobj s₁=>obj=↥s1.heap.objs.size/\s₁={ s1 with heap:=s1.heap.push { cls:=.type "dict",data:=.dict 0xA } }) PySem.F.kt_called_dict (Kb _) Kq (kt_code_dict_new _ #[7]) ?_;rintro obj s₁ ⟨rfl,rfl⟩;have hnew:(s1.heap.push { cls:=.type "dict",data:=.dict 0xA }).DictOf (br X.prog X.w) s1.heap.objs.size []:=Heap.DictOf.new s1.heap;show#[hnew.typeIs,Ki _ _,?_];unfold Builtin.«dict.__init__»;refine HR ?_;unfold Builtin.Dict.selfAndRest;refine HR (wpAny_notOrdered_dict hnew.typeIs ?_);show wpAny _ _ (pure (s1.heap.objs.size,[Value.ref (s.heap.objs.size+1)])) _ _ _;refine Ha ?_;show wpAny _ _ (Builtin.Dict.updateFrom "dict.__init__" s1.heap.objs.size ↥(s.heap.objs.size+1) [] .none) _ _ _;unfold Builtin.Dict.updateFrom;have hen1:IsEnum (s1.heap.push { cls:=.type "dict",data:=.dict 0xA }) (s.heap.objs.size+1) s.heap.objs.size 0 .none:=HW _ (by rw[ehp]; exact hen);refine HR (Jl (T:="enumerate") #[_,hen1,rfl] ?_);rw[He #[]];refine HR (E5 (s:={ s1 with heap:=s1.heap.push { cls:=.type "dict",data:=.dict 0xA } }) hen1 rfl rfl rfl hA λh3 tk hk3=>?_);have I2:Inv X pins σ (upd H s1.heap.objs.size (.dK [])) { s1 with heap:=h3,toks:=tk }:=I1.kept hk3;rw[He 0x0];refine HR (KI ?_);have up:∀b o,h'.get? b=⇑o->h3.get? b=⇑o:=λb o e=>hk3 _ _ (HW _ (show s1.heap.get? b=⇑o by rw[ehp]; exact e));refine HR (Jj (s:={ s1 with heap:=h3,toks:=tk }) (up _ _ hen) ?_);have gF:∀b∈[s.heap.objs.size+1,s.heap.objs.size],s.heap.objs.size<=b/\b<s1.heap.objs.size:=λb hb=>by
   have h4:s.heap.objs.size+1<s1.heap.objs.size:=by rw[ehp]; exact Hm hen
   simp only[Hh,ID,or_false] at hb;rcases hb with e|e <;> (rw[e]; constructor <;> lia)
 refine Ha #[plainId_quiet gY _,?_];have fpk:∀b∈[s.heap.objs.size+1,s.heap.objs.size],∀H',H' b=none->dq X pins H' b:=λb hb H' hn=>I.fpOk (gF b hb).1 hn;refine E2 (A:=X.A.in1) (H:=H) (D:=s1.heap.objs.size) hA (Kj _) h2 hD hz (λb hb=>IG (gF b hb).2) fpk (λs' H' J sm eD=>#[rfl,↥s1.heap.objs.size,H',J,rfl,q _ H' hD sm eD])
   ys.length 0 0 _ (upd H s1.heap.objs.size (.dK [])) none ∅ (Hw _) I2 (aB.new hD) (by rw[aH]; rfl) #[.none,up _ _ hen] (λT z=>by cases z) ?_ (λb hb=>?_)
 . let#[o,ho,r]:=hit;show#[o,up _ _ ho,r]
 . rw[aM (IG (gF b hb).2)];exact I.hok.fresh (gF b hb).1
def AS {a:Expr} {ta:TA} {p pos p' pos':Pos} (hc:X.calm=true) (hg:Gl X "dict") (hm:X.mg "dict"=none) (hg2:Gl X "enumerate") (hm2:X.mg "enumerate"=none) (ha:PA X [a] ta)
   (hs:starEach [a] X.env=[(false,eval a X.env)]:=by rfl)
   (he:starEach [.Call (.Name "enumerate" p') [a] [] pos'] X.env=[(false,eval (.Call (.Name "enumerate" p') [a] [] pos') X.env)]:=by rfl) :
   PE X (.Call (.Name "dict" p) [.Call (.Name "enumerate" p') [a] [] pos'] [] pos) (qi (wc X.K) ta):=by
 intro pins s σ H Q I h;refine JM (fV I hg hm wR ?_);refine Ie ?_ he rfl;rw[he];show wpAny _ _ (spliced [(false,eval (.Call (.Name "enumerate" p') [a] [] pos') X.env)]) _ _ s;refine Calls.spliced_cons (Call_ (fV I hg2 hm2 qI (Ie (aQ (ha pos' pins s σ H _ I h) λus s1 z=>?_) hs rfl)));let#[vs,H1,I1,r1,q1]:=z;let#[l,ys,e,q]:=id q1;subst e;cases r1 with
 | cons r rr =>
   cases rr;cases r;exact aQ (Dw hc I1 q1) λv s2 q2=>Calls.spliced_nil q2
end
end L2
namespace PySem
open Sem (wp)
open AutoSeq1 (wpAny_loadPart')
def zq (l:L6) (items:Array K') (n:Nat) (b:L6) (items2:Array K') (n2:Nat) (o:Obj) (hs0:¬(!items.isEmpty&&Builtin.List.listTooLong (items.size+items2.size))=true) (hs1:items.size<=sizeLine) (hs2:items.size+items2.size<=sizeLine+1) (hc:o.cls=.type "tuple") (hd:o.data=.seq items2 n2) :
   Meets (Builtin.«list.extend» #[[↥l,↥b],[]]) (λ_ R s=>s.heap.get? l=some { cls:=.type "list",dict:=none,data:=.seq items n,slots:=0xA }/\s.heap.get? b=⇑o/\R (.ok (.ret Value.none)) { s with heap:=s.heap.update l (Obj.mapSeq λx=>x++items2),toks:=s.toks }) :=
 .of_wp λprog w A R s h=>by
   let#[hp,g,d,tk,os]:=s;let#[cls,dict,data,slots]:=o;obtain rfl:cls=_:=hc;obtain rfl:data=_:=hd;let#[hl,hb,h]:=h;have f1:=AutoSeq1.idx_int; have f2:=AutoSeq1.sub_tuple_tuple; have f3:=AutoSeq1.sub_list_list; have f4:=AutoSeq1.sub_tuple_list; have f5:=AutoSeq1.sub_list_tuple
   have hz':(items++items2).size<=sizeLine+1:=by rw[Array.size_append]; exact hs2
   wp_walk using (wpAny_updateSeq hl rfl (hz:=hs1) (_hz':=hz')),wpAny_loadPart' hl,wpAny_loadPart' hb; show#[5,h]
end PySem
namespace L2
open PySem PySem.Spec PyProof.Rows
abbrev zW (K:L7):V->List V->Hp->VK->Prop:=λx vs H Q=>∃l b xs zs,x=↥l/\vs=[↥b]/\H l=⇑(.lst xs)/\aG K H b zs/\xs.length+zs.length<=sizeLine/\Q .non (upd H l (.lst (xs++zs)))
def sL {X:Cx}:jA X "list.extend" (zW X.K):=by
 intro pins s σ H x vs v us Q I rx rv h;let#[l,b,xs,zs,rfl,rfl,hH,hB,hz,q]:=h;cases rx;let#[u,rfl,ru]:=rv.one;cases ru;let#[z,its,n,r,hl,e]:=I.lstM hH;obtain⟨its2,r2,⟨o,e2,c2,n2,d2⟩,_⟩:=I.tuple hB;have hl2:=r2.length;have hsz:its.toArray.size+its2.toArray.size<=sizeLine:=by rw[Hn,Hn]; lia
 have hlong:¬ (!its.toArray.isEmpty&&Builtin.List.listTooLong (its.toArray.size+its2.toArray.size))=true:=by rw[oZ hsz,Bool.and_false];exact Ho
 refine call_meets F.slot_list_extend #[_,e,rfl] F.entry_list_extend (F.args_list_extend_2 _ _)
   (zq l its.toArray n b its2.toArray n2 o hlong (by rw[Hn]; lia) ∅ c2 d2) #[e,e2,?_]
 show#[.non,_,I.lset (its':=its++its2) hH e 0x6 (r.append r2) ?_,rfl,q];rw[HZ]
 lia
section
variable {X:Cx} {k:Nat} {f C:L6} {fd:FuncData} {ps:List Str} {sp:Sp} {m:Str} {pos apos:Pos} {o e:Expr} {es:List Expr} {t:TA} {ta:TE}
def n9 {pl:Sem Bool} (he:PE X.nox o ta) (c:Cls X.K C) (hm:Meth X.K C m f) (F:FnOk X.prog X.w X.K X.mg X.base (bv X.prog X.w) k f fd ps sp) (hr:Room k X.A) (hb:d9 X.K fd ps []) (ha:PA X.nox (e::es) t)
   (hst:starEach (e::es) X.env=(false,eval e X.env)::starEach es X.env:=by rfl) (hpl:(backTo pos (starEach es X.env)).any (·.1)=false:=by rfl)
   (ht:eval (.Call (.Attribute o m apos) (e::es) [] pos) X.env=(do
     let ov <- eval o X.env
     standAt apos.atName
     let (f,first) <- holding [ov] (getMethod ov m pl)
     callWith pos f first (backTo pos (starEach (e::es) X.env)) (backToKw pos (keywordEach [] X.env))):=by rfl) :
   PX X (.Call (.Attribute o m apos) (e::es) [] pos) (λσ H Q E=>kK C m sp [] E ta t σ H Q):=by
 intro pins s σ H Q E I h;refine PySem.W.methodCall_KW (pl:=pl) (Il (he pins s σ H _ (I.wish _) h) (λu s1 z202_=>?_) λ_ _ z=>z.elim) ht;let#[x,H1,I1,rx,a,dx,fs,ex,ea,l,q]:=z202_;have I1:=I1.unwish;subst ex;obtain rfl:u=Value.ref a:=rx;refine jo I1 ea c hm l ?_;refine PySem.W.callWith_K (first:=[↥a]) (h₀:=X.base) I.ok.mod.kin hm.kp (Il (ha pos pins s1 σ H1 _ (I1.wish _) q) (λus s2 z203_=>z203_.e λvs H2 I2 r q2=>#[I2.kIn,?_]) λ_ _ z=>z.elim) hst hpl;have I2:=I2.unwish;have r2:aU (↥a::vs) (↥a::us):=.cons rfl r;have q2:sp (↥a::vs) H2 Q E:=by have q3:sp (↥a::(vs++[])) H2 Q E:=q2;rw[IQ] at q3; exact q3
 have hl:(Value.ref a::us).length=ps.length:=by rw[<- r2.length]; exact F.len _ _ _ _ q2
 have hb2:BindsTo s2 fd ⟨↥a::us,[]⟩ (ps.zip (↥a::us)):=by have:=hb s2 (↥a::us) I2.kIn (by rw[IQ]; exact hl);rwa [IQ] at this
 refine Jp (Jk (F.run X.A X.stack s2 H2 #[↥a::us,[]] (↥a::us) (↥a::vs) Q E hr I2.env0 hb2 r2 q2) λrr s' hq=>?_);cases rr with
 | error ev=>show#[H2,s2,I2,hq]
 | ok fl =>
   cases fl with
   | ret u=>exact I2.after hq
   | next=>exact False.elim hq
   | brk=>exact False.elim hq
   | cont=>exact False.elim hq
end
section
variable {X:Cx} {k:Nat} {f C:L6} {fd:FuncData} {ps:List Str} {sp:Sp} {m:Str} {pos apos:Pos} {o:Expr} {ta:TE}
def DJ {pl:Sem Bool} (he:PE X.nox o ta) (c:Cls X.K C) (hm:Meth X.K C m f) (F:FnOk X.prog X.w X.K X.mg X.base (bv X.prog X.w) k f fd ps sp) (hr:Room k X.A) (hb:d9 X.K fd ps [])
   (ht:eval (.Call (.Attribute o m apos) [] [] pos) X.env=(do
     let ov <- eval o X.env
     standAt apos.atName
     let (f,first) <- holding [ov] (getMethod ov m pl)
     callWith pos f first (backTo pos (starEach [] X.env)) (backToKw pos (keywordEach [] X.env))):=by rfl) :
   PX X (.Call (.Attribute o m apos) [] [] pos) (λσ H Q E=>kK C m sp [] E ta my σ H Q):=by
 intro pins s σ H Q E I h;refine PySem.W.methodCall_KW (pl:=pl) (Il (he pins s σ H _ (I.wish _) h) (λu s1 z205_=>?_) λ_ _ z=>z.elim) ht;let#[x,H1,I1,rx,a,dx,fs,ex,ea,l,q]:=z205_;have I1:=I1.unwish;subst ex;obtain rfl:u=Value.ref a:=rx;refine jo I1 ea c hm l ?_;refine PySem.W.callWith_K0 (first:=[↥a]) I1.kIn hm.kp ?_;have r2:aU [V.ref a] [Value.ref a]:=.cons rfl .nil;have q2:sp [↥a] H1 Q E:=q;have hl:[Value.ref a].length=ps.length:=by rw[<- r2.length]; exact F.len _ _ _ _ q2
 have hb2:BindsTo s1 fd ⟨[↥a],[]⟩ (ps.zip [↥a]):=by have:=hb s1 [↥a] I1.kIn (by rw[IQ]; exact hl);rwa [IQ] at this
 refine Jp (Jk (F.run X.A X.stack s1 H1 #[[↥a],[]] [↥a] [↥a] Q E hr I1.env0 hb2 r2 q2) λrr s' hq=>?_);cases rr with
 | error ev=>show#[H1,s1,I1,hq]
 | ok fl =>
   cases fl with
   | ret u=>exact I1.after hq
   | next=>exact False.elim hq
   | brk=>exact False.elim hq
   | cont=>exact False.elim hq
end
def nw {H X:Hp} {a:L6} {o:HO} (e:upd H a o=X) (h:H a=none):aB H X/\X a=⇑o:=by subst e; show#[aB.new h,aH]
def iN {c A B:Prop} [Decidable c] (h:B) (hc:¬ c:=by decide +kernel):if c then A else B:=aa hc h
def iP {c A B:Prop} [Decidable c] (h:A) (hc:c:=by decide +kernel):if c then A else B:=ag hc h
end L2
namespace Cw
open PySem PySem.W PyProof.Rows L2 Gx Fl Wk Rk2
variable {K:L7}
def Aa {X:Cx} {e:PySem.Expr} {f:Str} {pos:PySem.Pos} {ta:TE} (hK:X.K=K) (he:PE X e ta) (hb:attributeBase e f X.env (eval e X.env)=eval e X.env):PE X (.Attribute e f pos) (pA K ta f):=hK ▸ wX he hb
def Gk {X:Cx} {tg l:Expr} (f:L7->TI) (h:X.K=K) (p:PI X tg l (f X.K)):PI X tg l (f K):=h ▸ p
variable {H:Hp}
def cw {H':Hp}{z:L6} (e:aB H H') (h:H z=none):aB H (ers z H'):=λb o hb=>by rw[ak (λy=>by rw[y,h] at hb; cases hb)]; exact e _ _ hb
abbrev rm (K:L7):List V->Hp->VK->Prop:=λxs H Q=>∃p ys,xs=[↥p]/\((aE K H p ys/\∀l,H l=none->Q ↥l (upd H l (.tup ys)))\/aG K H p ys/\Q ↥p H)
inductive Ac where
 | go (n:Nat)
 | call (g:Str) (ts:List Tr) (n:Nat)
 | wait (b:Option Int) (n:Nat)
 | back (t:Tr)
 | ifs (t:Tr) (n m:Nat)
 | out (t:Tr) (n:Nat)
 | put (t:Tr) (f:Str) (u:Tr) (n:Nat)
 | get (t:Tr) (f:Str) (b:Option Int) (n:Nat)
 | new (b:Option Int) (n:Nat)
structure Spt where
 sets:List (Int×Tr)
 act:Ac
structure Mk where
 ch:List (Str×Nat)
 vs:List (List (Option Tr))
abbrev kj:Hl Int->V
 | none=>.non
 | some i=>.int i
abbrev fU:Ac->List Tr
 | .call _ ts _=>ts
 | .back t=>[t]
 | .ifs t _ _=>[t]
 | .out t _=>[t]
 | .put t _ u _=>[t,u]
 | .get t _ _ _=>[t]
 | _=>[]
abbrev kind:Ac->Str
 | .go _=>"go"
 | .call _ _ _=>"call"
 | .wait _ _=>"wait"
 | .back _=>"back"
 | .ifs _ _ _=>"if"
 | .out _ _=>"out"
 | .put _ _ _ _=>"put"
 | .get _ _ _ _=>"get"
 | .new _ _=>"new"
section
variable (K:L7) (H:Hp)
abbrev kN:Ac->List V->Prop
 | .go n,xs=>xs=[.int n]
 | .call g ts n,xs=>∃q us,xs=[.str g,↥q,.int n]/\aG K H q us/\Ps (RAt H) us ts
 | .wait b n,xs=>xs=[kj b,.int n]
 | .back t,xs=>∃x,xs=[x]/\RAt H t x
 | .ifs t n m,xs=>∃x,xs=[x,.int n,.int m]/\RAt H t x
 | .out t n,xs=>∃x,xs=[x,.int n]/\RAt H t x
 | .put t f u n,xs=>∃x y,xs=[x,.str f,y,.int n]/\RAt H t x/\RAt H u y
 | .get t f b n,xs=>∃x,xs=[x,.str f,kj b,.int n]/\RAt H t x
 | .new b n,xs=>xs=[kj b,.int n]
abbrev iC (a:Ac) (v:V):Prop:=∃p xs,v=↥p/\aG K H p (.str (kind a)::xs)/\kN K H a xs
abbrev iq (s:Int×Tr) (u:V):Prop:=∃q x,u=↥q/\aG K H q [.int s.1,x]/\RAt H s.2 x
abbrev gm (s:Spt) (u:V):Prop:=∃q p us av,u=↥q/\aG K H q [↥p,av]/\aG K H p us/\Ps (iq K H) us s.sets/\iC K H s.act av
abbrev kt (d:L6) (cs:List (Str×List Spt)):Prop:=∃kvs,H d=⇑(.dK kvs)/\∀g ss,(g,ss)∈cs->∃l us,aq kvs (Sum.inr g:aF)=⇑↥l/\H l=⇑(.lst us)/\Ps (gm K H) us ss
abbrev le (kvs:List (aF×V)) (cs:List (Str×List Spt)):Prop:=∀g ss,(g,ss)∈cs->∃l us,aq kvs (Sum.inr g:aF)=⇑↥l/\H l=⇑(.lst us)/\Ps (gm K H) us ss
abbrev dC (p:Str×Nat) (u:V):Prop:=∃q,u=↥q/\aG K H q [.str p.1,.int p.2]
abbrev bd (o:Hl Tr) (u:V):Prop:=match o with
 | none=>u=.non
 | some t=>RAt H t u
abbrev ke (pl:List (Hl Tr)) (u:V):Prop:=∃q us,u=↥q/\aG K H q us/\Ps (bd H) us pl
abbrev fh (c:L6) (ch:List (Str×Nat)):Prop:=∃us,aG K H c us/\Ps (dC K H) us ch
abbrev gh (m:Mk) (u:V):Prop:=∃q c l us,u=↥q/\aG K H q [↥c,↥l]/\fh K H c m.ch/\H l=⇑(.lst us)/\Ps (ke K H) us m.vs
abbrev jw (d:L6) (ms:List 0x8):Prop:=∃kvs,H d=⇑(.dK kvs)/\∀g l,(g,l)∈ms->∃a us,aq kvs (Sum.inr g:aF)=⇑↥a/\H a=⇑(.lst us)/\Ps (gh K H) us l
abbrev mB (kvs:List (aF×V)) (ms:List 0x8):Prop:=∀g l,(g,l)∈ms->∃a us,aq kvs (Sum.inr g:aF)=⇑↥a/\H a=⇑(.lst us)/\Ps (gh K H) us l
abbrev ko (s:Spt) (u:V):Prop:=∃q p us av,u=↥q/\aG K H q [↥p,av]/\aE K H p us/\Ps (iq K H) us s.sets/\iC K H s.act av
abbrev oI (c:Str×List Spt) (u:V):Prop:=∃q l us,u=↥q/\aG K H q [.str c.1,↥l]/\aE K H l us/\Ps (ko K H) us c.2
abbrev im (v:V) (cs:List (Str×List Spt)):Prop:=∃p us,v=↥p/\aE K H p us/\Ps (oI K H) us cs
abbrev kF (pl:List (Hl Tr)) (u:V):Prop:=∃q us,u=↥q/\aE K H q us/\Ps (bd H) us pl
abbrev dE (m:Mk) (u:V):Prop:=∃q c l us,u=↥q/\aG K H q [↥c,↥l]/\fh K H c m.ch/\aE K H l us/\Ps (kF K H) us m.vs
abbrev mI (c:Str×List Mk) (u:V):Prop:=∃q l us,u=↥q/\aG K H q [.str c.1,↥l]/\aE K H l us/\Ps (dE K H) us c.2
abbrev ip (v:V) (ms:List 0x8):Prop:=∃p us,v=↥p/\aE K H p us/\Ps (mI K H) us ms
end
section
variable {K:L7} {H H':Hp} (e:aB H H')
include e
def pw {us:List V} {ts:List Tr} (h:Ps (RAt H) us ts):Ps (RAt H') us ts:=Ps.imp (λ_ _ z=>z*>e) h
def kN.mono:∀{a:Ac} {xs:List V},kN K H a xs->kN K H' a xs
 | .go _,_,h=>h
 | .call _ _ _,_,h=>by let#[q,us,h1,h2,h3]:=h; show#[q,us,h1,e<*h2,pw e h3]
 | .wait _ _,_,h=>h
 | .back _,_,h=>by let#[x,h1,h2]:=h; show#[x,h1,h2*>e]
 | .ifs _ _ _,_,h=>by let#[x,h1,h2]:=h; show#[x,h1,h2*>e]
 | .out _ _,_,h=>by let#[x,h1,h2]:=h; show#[x,h1,h2*>e]
 | .put _ _ _ _,_,h=>by let#[x,y,h1,h2,h3]:=h; show#[x,y,h1,h2*>e,h3*>e]
 | .get _ _ _ _,_,h=>by let#[x,h1,h2]:=h; show#[x,h1,h2*>e]
 | .new _ _,_,h=>h
def iC.mono {a:Ac} {v:V} (h:iC K H a v):iC K H' a v:=by let#[p,xs,h1,h2,h3]:=h; show#[p,xs,h1,e<*h2,h3*>e]
def iq.mono {s:Int×Tr} {u:V} (h:iq K H s u):iq K H' s u:=by let#[q,x,h1,h2,h3]:=h; show#[q,x,h1,e<*h2,h3*>e]
def gm.mono {s:Spt} {u:V} (h:gm K H s u):gm K H' s u:=by let#[q,p,us,av,h1,h2,h3,h4,h5]:=h; show#[q,p,us,av,h1,e<*h2,e<*h3,Ps.imp (λ_ _ z=>z*>e) h4,h5*>e]
def kt.mono {d:L6} {cs:List (Str×List Spt)} (h:kt K H d cs):kt K H' d cs:=by let#[kvs,h1,h2]:=h;show#[kvs,e _ _ h1,λg ss m=>?_];let#[l,us,a,b,c]:=h2 g ss m;show#[l,us,a,e _ _ b,Ps.imp (λ_ _ z=>z*>e) c]
def dC.mono {p:Str×Nat} {u:V} (h:dC K H p u):dC K H' p u:=by let#[q,h1,h2]:=h; show#[q,h1,e<*h2]
def bd.mono {o:Hl Tr} {u:V} (h:bd H o u):bd H' o u:=by
 cases o with
 | none=>exact h
 | some t=>exact RAt.mono (t:=t) e h
def ke.mono {pl:List (Hl Tr)} {u:V} (h:ke K H pl u):ke K H' pl u:=by let#[q,us,h1,h2,h3]:=h; show#[q,us,h1,e<*h2,Ps.imp (λ_ _ z=>bd.mono e z) h3]
def fh.mono {c:L6} {ch:List (Str×Nat)} (h:fh K H c ch):fh K H' c ch:=by let#[us,h1,h2]:=h; show#[us,e<*h1,Ps.imp (λ_ _ z=>z*>e) h2]
def gh.mono {m:Mk} {u:V} (h:gh K H m u):gh K H' m u:=by let#[q,c,l,us,h1,h2,h3,h4,h5]:=h; show#[q,c,l,us,h1,e<*h2,h3*>e,e _ _ h4,Ps.imp (λ_ _ z=>z*>e) h5]
def jw.mono {d:L6} {ms:List 0x8} (h:jw K H d ms):jw K H' d ms:=by let#[kvs,h1,h2]:=h;show#[kvs,e _ _ h1,λg ss m=>?_];let#[l,us,a,b,c]:=h2 g ss m;show#[l,us,a,e _ _ b,Ps.imp (λ_ _ z=>z*>e) c]
def ko.mono {s:Spt} {u:V} (h:ko K H s u):ko K H' s u:=by let#[q,p,us,av,h1,h2,h3,h4,h5]:=h; show#[q,p,us,av,h1,e<*h2,e.seq h3,Ps.imp (λ_ _ z=>z*>e) h4,h5*>e]
def oI.mono {c:Str×List Spt} {u:V} (h:oI K H c u):oI K H' c u:=by let#[q,l,us,h1,h2,h3,h4]:=h; show#[q,l,us,h1,e<*h2,e.seq h3,Ps.imp (λ_ _ z=>z*>e) h4]
def im.mono {v:V} {cs:List (Str×List Spt)} (h:im K H v cs):im K H' v cs:=by let#[p,us,h1,h2,h3]:=h; show#[p,us,h1,e.seq h2,Ps.imp (λ_ _ z=>z*>e) h3]
def kF.mono {pl:List (Hl Tr)} {u:V} (h:kF K H pl u):kF K H' pl u:=by let#[q,us,h1,h2,h3]:=h; show#[q,us,h1,e.seq h2,Ps.imp (λ_ _ z=>bd.mono e z) h3]
def dE.mono {m:Mk} {u:V} (h:dE K H m u):dE K H' m u:=by let#[q,c,l,us,h1,h2,h3,h4,h5]:=h; show#[q,c,l,us,h1,e<*h2,h3*>e,e.seq h4,Ps.imp (λ_ _ z=>z*>e) h5]
def mI.mono {c:Str×List Mk} {u:V} (h:mI K H c u):mI K H' c u:=by let#[q,l,us,h1,h2,h3,h4]:=h; show#[q,l,us,h1,e<*h2,e.seq h3,Ps.imp (λ_ _ z=>z*>e) h4]
def ip.mono {v:V} {ms:List 0x8} (h:ip K H v ms):ip K H' v ms:=by let#[p,us,h1,h2,h3]:=h; show#[p,us,h1,e.seq h2,Ps.imp (λ_ _ z=>z*>e) h3]
end
def le.put {G G':Hp} {kvs:List (aF×V)} {cs:List (Str×List Spt)} {g:Str} {ss:List Spt} {l:L6} {us:List V} (h:le K G kvs cs) (e:aB G G') (hl:G' l=⇑(.lst us)) (hu:Ps (gm K G') us ss) (nd:∀c∈cs,c.1≠g):le K G' (putK kvs (Sum.inr g:aF) ↥l) (cs++[(g,ss)]):=λg2 s2 m=>by
 rcases IH.mp m with m|m
 . let#[l2,us2,a,b,c]:=h g2 s2 m;show#[l2,us2,by rw[cZ,HX λz=>nd _ m (Sum.inr.inj z)]; exact a,e _ _ b,Ps.imp (λ_ _ z=>z*>e) c]
 . cases IC.mp m;show#[l,us,by rw[cZ,He rfl],hl,hu]
def mB.put {G G':Hp} {kvs:List (aF×V)} {cs:List 0x8} {g:Str} {ss:List Mk} {l:L6} {us:List V} (h:mB K G kvs cs) (e:aB G G') (hl:G' l=⇑(.lst us)) (hu:Ps (gh K G') us ss) (nd:∀c∈cs,c.1≠g):mB K G' (putK kvs (Sum.inr g:aF) ↥l) (cs++[(g,ss)]):=λg2 s2 m=>by
 rcases IH.mp m with m|m
 . let#[l2,us2,a,b,c]:=h g2 s2 m;show#[l2,us2,by rw[cZ,HX λz=>nd _ m (Sum.inr.inj z)]; exact a,e _ _ b,Ps.imp (λ_ _ z=>z*>e) c]
 . cases IC.mp m;show#[l,us,by rw[cZ,He rfl],hl,hu]
def vE {α:Type} {cs:List (Str×α)} {i:Nat} {c:Str×α} (nd:(cs.map (·.1)).Nodup) (h:cs[i]?=⇑c):∀d∈cs.take i,d.1≠c.1:=λd hd z=>by
 let#[j,hj]:=JU.mp hd;rw[List.getElem?_take] at hj;split at hj
 . rename_i hji
   have e1:(cs.map (·.1))[j]?=⇑d.1:=by rw[Hk,hj]; rfl
   have e2:(cs.map (·.1))[i]?=⇑c.1:=by rw[Hk,h]; rfl
   rw[z,<- e2] at e1;have hjl:j<(cs.map (·.1)).length:=by rw[HS];exact(HV.mp hj).1
   have:=(K1 hjl nd).mp e1
   lia
 . cases hj
def jI {α:Type} {R:α->V->Prop}:∀{vs:List V} {ts:List α},vs.length=ts.length->(∀(i:Nat) v,vs[i]?=⇑v->∃t,ts[i]?=⇑t/\R t v)->Ps R vs ts
 | [],[],_,_=>trivial
 | v::vs,t::ts,e,h=>by
   show#[?_,jI ↑e λi w hw=>?_]
   . let#[u,hu,r]:=h 0 v rfl;cases hu;exact r
   . exact h (i+1) w ↑hw
 | [],_::_,e,_=>by cases e
 | _::_,[],e,_=>by cases e
abbrev jg (cs:List (Str×List Spt)) (f:Fm) (s:Spt):Prop:=∃ss,(f.fn,ss)∈cs/\ss[f.spot]?=⇑s
abbrev eo (ms:List 0x8) (f:Fm) (m:Mk):Prop:=∃l,(f.fn,l)∈ms/\l[f.spot]?=⇑m
abbrev Ow (fs:List Fm) (wl:List V) (i:Nat) (f:Fm):Prop:=f∈fs/\(wl[i]?=⇑↥f.a\/(wl.length<=i/\∃fs0,fs=fs0++[f]))
structure Lv (ms:List 0x8) (fs:List Fm) (wl:List V) (i:Nat) (f:Fm) (m:Mk) (p:Str×Nat) (pl:List (Option Tr)):Prop where
 ow:Ow fs wl i f
 ma:eo ms f m
 fi:f.first<=i
 at_:m.ch[i - f.first]?=⇑p
 pl_:m.vs[i - f.first]?=⇑pl
def bt {α:Type} {R:α->V->Prop}:∀{vs:List V} {ts:List α} {i:Nat} {t:α},Ps R vs ts->ts[i]?=⇑t->∃v,vs[i]?=⇑v/\R t v
 | v::vs,t::ts,0,_,h,e=>by cases e; show#[v,rfl,h.1]
 | v::vs,t::ts,i+1,_,h,e=>bt (i:=i) h.2 ↑e
 | [],[],_,_,_,e=>by cases e
def pN (ss:List Str):(ss.map V.str).all eC=true:=by rw[List.all_map]; exact K9.mpr λ_ _=>rfl
def sQ {n:Str} {ss:List Str} (h:n∈ss):eP (.str n) (ss.map V.str)=true:=(K12.inV_map n ss)\(Hf h)
def Cj {n:Str} {ss:List Str} (h:n∈ss):∃z,(ss.map V.str)[ss.idxOf n]?=⇑z/\dQ z (.str n)=true:=by have hl:=J3 h;show#[.str n,by rw[Hk,HU hl,List.getElem_idxOf]; rfl,?_];simp [dQ]
def GR {n:Str} {ss:List Str}:∀(m:Nat) (z:V),m<ss.idxOf n->(ss.map V.str)[m]?=⇑z->dQ z (.str n)=false:=by
 induction ss with
 | nil=>intro m z hm; simp at hm
 | cons s ss ih =>
   intro m z hm hz;rw[List.idxOf_cons] at hm;by_cases e:(s==n)=true
   . rw[e] at hm; simp at hm
   . rw[Bool.not_eq_true] at e;rw[e] at hm;cases m with
     | zero=>cases hz; simpa [dQ] using e
     | succ m=>exact ih m z (by simp at hm; lia) ↑hz
def mH {u:Tr} {v:V} (h:RAt H u v):v≠.non:=by
 cases u with
 | box k=>let#[p,rfl,_]:=h; intro z; cases z
 | num k=>let#[p,rfl,_]:=h; intro z; cases z
 | op s a b=>let#[p,x,y,rfl,_]:=h; intro z; cases z
def fC {n:Nat} (h:n<1000000):n<=sizeLine:=Jw (Rk2.lt_line' h)
def pR (xs:List V) (n:Nat):dH xs none ⇑(n:Int)=xs.take n:=by
 unfold dH;rw[show HT.sIx xs.length xs.length ⇑((n:Nat):Int)=min n xs.length from HT.sIx_nat _ _ n,HT.sIx_none,Kw,Nat.sub_zero];by_cases h:n<=xs.length
 . rw[KM h]
 . rw[Kk ∅,Ic (HY _),Ic ∅]
def rep_one {x:V}:∀k:Nat,(List.replicate k [x]).flatten=List.replicate k x
 | 0=>rfl
 | k+1=>by rw[JK,J2,rep_one k]; rfl
variable {x:L6}
def iD :ers x H x=none:=by unfold L2.ers; rw[He rfl]
def qL {o:HO}:aB (ers x H) (upd H x o):=λb u e=>by
 have ne:b≠x:=λz=>by rw[z,iD] at e; cases e
 rw[aM ne];exact bK _ _ e
def C' {H':Hp}(e:aB (ers x H) H'):aB (ers x H) (ers x H'):=cw e iD
def ph {l:L6} {xs:List V} (hl:H l=⇑(.lst xs)) {t:Tr}:∀{v:V},RAt H t v->RAt (ers l H) t v:=by
 have k:∀p ys,H p=⇑(.tup ys)->ers l H p=⇑(.tup ys):=λp ys e=>by rw[ak (λz=>by rw[z,hl] at e; cases e)]; exact e
 induction t with
 | box j=>intro v h; let#[p,h1,h2]:=h; show#[p,h1,k _ _ h2]
 | num j=>intro v h; let#[p,h1,h2]:=h; show#[p,h1,k _ _ h2]
 | op s a b iha ihb=>intro v h; let#[p,x,y,h1,h2,h3,h4,h5,h6]:=h; show#[p,x,y,h1,k _ _ h2,h3,h4,iha h5,ihb h6]
def gb {Hb A B:Hp}(s:aB A B):aB (gr Hb H A) (gr Hb H B):=λb o e=>by
 unfold gr at e ⊢;cases h:H b with
 | none=>rw[h] at e; exact s _ _ e
 | some u=>rw[h] at e; exact e
def wY {Hb A:Hp}{o:HO}:ers x (gr Hb H (upd A x o))=ers x (gr Hb H A):=by
 funext b;by_cases z:b=x
 . rw[z,iD,iD]
 . rw[ak z,ak z];unfold gr;rw[aM z]
abbrev cx (kvs:List (aF×V)) (ss:List (Int×Tr)):List (Int×Int):=ss.map λs=>(s.1,wv (fOf kvs) s.2)
abbrev gE (kvs:List (aF×V)) (l:List (Int×Int)):List (aF×V):=l.foldl (λa p=>putK a (Sum.inl p.1:aF) (.int p.2)) kvs
def qX:∀(l:List (Int×Int)) (kvs:List (aF×V)),(gE kvs l).length<=kvs.length+l.length
 | [],_=>HY _
 | p::l,kvs=>by have h:=qX l (putK kvs (Sum.inl p.1:aF) (.int p.2));have h2:=Rk2.putK_len kvs (Sum.inl p.1:aF) (.int p.2);rw[II];exact Hu h ∅
def Ey {kvs:List (aF×V)} {l:List (Int×Int)} {i:Nat} {p:Int×Int} (h:l[i]?=⇑p):gE kvs (l.take (i+1))=putK (gE kvs (l.take i)) (Sum.inl p.1:aF) (.int p.2):=by rw[IM,h];unfold gE;rw[IX];rfl
abbrev setK (kvs:List (aF×V)) (ss:List (Int×Tr)):List (aF×V):=gE kvs (cx kvs ss)
abbrev iG (kvs:List (aF×V)) (b:Hl Int) (z:Int):List (aF×V):=match b with
 | none=>kvs
 | some k=>putK kvs (Sum.inl k:aF) (.int z)
abbrev dO (t:Tr):Prop:=dp t<10/\okl (lvs t)
abbrev rtab:List (Str×List V):=[("go",[]),("if",[.int 1]),("out",[.int 1]),("put",[.int 1,.int 3]),("get",[.int 1]),("new",[]),("wait",[]),("back",[.int 1])]
def ud {a:Ac} {xs:List V} (h:kN K H a xs):am (V.str (kind a)::xs) 0=⇑(.str (kind a))/\∃us,Ps (RAt H) us (fU a)/\((kind a="call"/\∃p,am (V.str (kind a)::xs) 2=⇑↥p/\aG K H p us)\/(kind a≠"call"/\∃pl:List Int,KTD.datumAt (kind a) rtab=⇑(pl.map V.int)/\pl.length=us.length/\∀(i:Nat) (u:V),us[i]?=⇑u->∃p,pl[i]?=⇑p/\am (V.str (kind a)::xs) p=⇑u)):=by
 cases a with
 | go n=>obtain rfl:xs=_:=h; show#[rfl,[],trivial,.inr #[(show("go":Str)≠"call" by decide +kernel),[],(show KTD.datumAt ("go":Str) rtab=_ by decide +kernel),rfl,λi u e=>by simp at e]]
 | call g ts n=>let#[q,us,rfl,h2,h3]:=h; show#[rfl,us,h3,.inl #[rfl,q,rfl,h2]]
 | wait b n=>obtain rfl:xs=_:=h; show#[rfl,[],trivial,.inr #[(show("wait":Str)≠"call" by decide +kernel),[],(show KTD.datumAt ("wait":Str) rtab=_ by decide +kernel),rfl,λi u e=>by simp at e]]
 | back t=>let#[x,rfl,h2]:=h; show#[rfl,[x],#[h2,trivial],.inr #[(show("back":Str)≠"call" by decide +kernel),[1],(show KTD.datumAt ("back":Str) rtab=_ by decide +kernel),rfl,λi u e=>by match i,e with|0,e=>exact⟨1,rfl,e⟩]]
 | ifs t n m=>let#[x,rfl,h2]:=h; show#[rfl,[x],#[h2,trivial],.inr #[(show("if":Str)≠"call" by decide +kernel),[1],(show KTD.datumAt ("if":Str) rtab=_ by decide +kernel),rfl,λi u e=>by match i,e with|0,e=>exact⟨1,rfl,e⟩]]
 | out t n=>let#[x,rfl,h2]:=h; show#[rfl,[x],#[h2,trivial],.inr #[(show("out":Str)≠"call" by decide +kernel),[1],(show KTD.datumAt ("out":Str) rtab=_ by decide +kernel),rfl,λi u e=>by match i,e with|0,e=>exact⟨1,rfl,e⟩]]
 | put t f u n=>let#[x,y,rfl,h2,h3]:=h; show#[rfl,[x,y],#[h2,h3,trivial],.inr #[(show("put":Str)≠"call" by decide +kernel),[1,3],(show KTD.datumAt ("put":Str) rtab=_ by decide +kernel),rfl,λi u e=>by match i,e with|0,e=>exact⟨1,rfl,e⟩|1,e=>exact⟨3,rfl,e⟩]]
 | get t f b n=>let#[x,rfl,h2]:=h; show#[rfl,[x],#[h2,trivial],.inr #[(show("get":Str)≠"call" by decide +kernel),[1],(show KTD.datumAt ("get":Str) rtab=_ by decide +kernel),rfl,λi u e=>by match i,e with|0,e=>exact⟨1,rfl,e⟩]]
 | new b n=>obtain rfl:xs=_:=h; show#[rfl,[],trivial,.inr #[(show("new":Str)≠"call" by decide +kernel),[],(show KTD.datumAt ("new":Str) rtab=_ by decide +kernel),rfl,λi u e=>by simp at e]]
end Cw
namespace L2
open PySem PySem.Spec PyProof.Rows
inductive TyD (K:W.Frag) (H:Hp):V->Value->Prop where
 | of {x:V} {t:Value} (h:TyOf K H x t):TyD K H x t
 | tup {a:Addr} {xs:List V} (h:aG K H a xs):TyD K H ↥a (.type "tuple")
 | lst {a:Addr} {xs:List V} (h:aE K H a xs):TyD K H ↥a (.type "list")
def nh {X:Cx}:ao X (.builtin "isinstance") (λxs H Q=>∃x c t b,xs=[x,.ty c]/\TyD X.K H x t/\PySem.W.kitOne X.K t (.type c)=⇑b/\Q (.bl b) H):=by
 intro pins s σ H xs us Q I r h;let#[x,c,t,b,rfl,ty,hk,q]:=h;let#[u,w',rfl,rx,rc]:=oW r;cases (show w'=Value.type c from rc);cases ty with
 | of ty=>exact tM I rx ty hk λtk=>#[.bl b,H,I.tok _,rfl,q]
 | @tup a xs h =>
   cases (show u=Value.ref a from rx);obtain⟨_,_,⟨o,h1,h2,_⟩,_⟩:=I.tuple h;exact PySem.W.kia_one PySem.W.kitx_tuple I.kIn #[o,h1,h2] hk (λz=>nomatch z) λtk=>#[.bl b,H,I.tok _,rfl,q]
 | @lst a xs h =>
   cases (show u=Value.ref a from rx);let#[_,_,pl,_]:=I.list h;let#[o,h1,h2,_]:=pl.isList;exact PySem.W.kia_one PySem.W.kitx_list I.kIn #[o,h1,h2] hk (λz=>nomatch z) λtk=>#[.bl b,H,I.tok _,rfl,q]
section
variable {X:Cx} {a b e:Expr} {ta tb te:TE} {pos:Pos}
def iT (K:L7) {i:Int} {j:Nat} {p:Pos} (ha:PE X a ta) (h:X.K=K:=by rfl):PE X (.Subscript a (.Constant (.int i) j p) pos) (gK (qu K) ta (tC (.int i))):=h ▸ cB vm ha aJ (λ_ _=>rfl)
def iL (K:L7) {i:Int} {j:Nat} {p:Pos} (ha:PE X a ta) (h:X.K=K:=by rfl):PE X (.Subscript a (.Constant (.int i) j p) pos) (gK (qM K) ta (tC (.int i))):=h ▸ cB vj ha aJ (λ_ _=>rfl)
def iX (K:L7) (ha:PE X a ta) (hb:PE X b tb) (hs:pU b:=by exact λ_ _=>rfl) (h:X.K=K:=by rfl):PE X (.Subscript a b pos) (gK (qu K) ta tb):=h ▸ cB vm ha hb hs
def iY (K:L7) (ha:PE X a ta) (hb:PE X b tb) (hs:pU b:=by exact λ_ _=>rfl) (h:X.K=K:=by rfl):PE X (.Subscript a b pos) (gK (qM K) ta tb):=h ▸ cB vj ha hb hs
def pS (i:Nat) {x:Str} {pos':Pos} (hN:X.N.Nodup) (he:PE X e te) (hi:X.N[i]?=⇑x:=by rfl) (hx:jS X.env.scope x:=by first|exact Or.inl rfl|exact Or.inr rfl) (hs:swapsWith e ⇑(.Name x pos') pos.line X.env=pure false:=by rfl) (hf:X.fn x=true\/X.env.scope.names.lookup x=some .local:=by first|exact .inl rfl|exact .inr rfl|assumption):PS X (.Assign [.Name x pos'] e pos) (mG te (fQ i)):=Fi hN hi hx he hs hf
def fD {f:Str} (he:PE X e ta) (hb:attributeBase e f X.env (eval e X.env)=eval e X.env:=by rfl):PE X (.Attribute e f pos) (pA X.K ta f):=wX he hb
def cD {k k':Nat} {f:L6} {fd:FuncData} {ps:List Str} {sp:Sp} {x:Str} {st:Stmt} {p:Pos} {es:List Expr} {t:TA} (D:DefOk X.K X.mg x st ps f fd) (G:FnOk X.prog X.w X.K X.mg X.base CX0 k f fd ps sp) (hr:Room k' X.A) (ha:PA X (e::es) t) (hk:k<=k':=by decide) (hg:Gl X x:=by rfl)
   (hdb:(x==("__debug__":Str))=false:=by decide) (he:starEach (e::es) X.env=(false,eval e X.env)::starEach es X.env:=by rfl) (hpl:(backTo pos (starEach es X.env)).any (·.1)=false:=by rfl) :
   PE X (.Call (.Name x p) (e::es) [] pos) (mU sp [] E0 t):=fe D G (hr*>hk) ha hg hdb he hpl
end
end L2
namespace Cw
open PySem PySem.W PyProof.Rows L2 Gx Fl Wk Rk2
def A9 {kvs:List (aF×V)} {t:Tr} (h:DV kvs) (ok:dO t):0<=wv (fOf kvs) t/\wv (fOf kvs) t<K21.wide:=iM (ki h) ok.2
def FV (ys:List V) (y:V):bX (ys++[y])=putK (bX ys) (Sum.inl (ys.length:Int):aF) y:=by
 unfold bX;rw[HZ,JR];have e:cm (ys.length+1)=cm ys.length++[(Sum.inl (ys.length:Int):aF)]:=by unfold cm;rw[Ju,Hq];rfl
 rw[e,List.zip_append (sU _),IX];rfl
def pZ {ys:List V} {i:Nat} {y:V} (h:ys[i]?=⇑y):bX (ys.take (i+1))=putK (bX (ys.take i)) (Sum.inl (i:Int):aF) y:=by have hi:=(HV.mp h).1;have e:=FV (ys.take i) y;rw[IE,KM (Jw hi)] at e;rw[IM,h];exact e
def nz {ys:List V} (h:∀y∈ys,∃z,y=V.int z/\0<=z/\z<K21.wide):∀n,n<=ys.length->DV (bX (ys.take n))/\(bX (ys.take n)).length<=n
 | 0,_=>#[λk x e=>(nomatch (show(none:Hl V)=⇑x from e)),HY _]
 | n+1,hn=>by have ih:=nz h n ∅;have e:=HU (l:=ys) (i:=n) ∅;let#[z,hz,z0,z1]:=h _ (IA e);rw[pZ e,hz];show#[DV_put ih.1 z0 z1,Hu (putK_len _ _ _) ∅]
def pV {zs:List Int} (h:∀z∈zs,0<=z/\z<K21.wide):DV (bX (zs.map V.int))/\(bX (zs.map V.int)).length<=zs.length:=by have:=nz (ys:=zs.map V.int) (λy hy=>by let#[z,hz,rfl]:=IJ.mp hy; show#[z,rfl,h z hz]) zs.length (by rw[HS]; exact HY _);rwa [Ic (by rw[HS]; exact HY _)] at this
def sN {K:L7} {H:Hp}:∀{us ws:List V} {ch:List (Str×Nat)},Ps (dC K H) us ch->Ps (dC K H) ws ch->(∀p∈ch,PyData.strOk p.1=true)->Bg.TwinA K H 1 us ws
 | [],[],[],_,_,_=>.nil
 | u::us,w::ws,p::ch,h1,h2,ok=>by let#[q1,rfl,a1]:=h1.1;let#[q2,rfl,a2]:=h2.1;exact .cons (.tup a1 a2 (.of (.cons (.str (ok p Hj)) (.cons .int .nil)))) (sN h1.2 h2.2 λx hx=>ok x (Hv _ hx))
 | [],_::_,[],_,h,_=>h.elim
 | [],_,_::_,h,_,_=>h.elim
 | _::_,_,[],h,_,_=>h.elim
 | _::_,[],_::_,_,h,_=>h.elim
def um:∀{ss acc:List Str},(∀s∈ss,s∈acc)->ss.foldl K12.step acc=acc
 | [],_,_=>rfl
 | s::ss,acc,h=>by show ss.foldl K12.step (K12.step acc s)=acc;rw[show K12.step acc s=acc from He (h s Hj)];exact um λt ht=>h t (Hv _ ht)
def wS:∀{ss acc:List Str},(acc++ss).Nodup->ss.foldl K12.step acc=acc++ss
 | [],acc,_=>(IQ acc).symm
 | s::ss,acc,h=>by
   have hs:s ∉ acc:=λz=>by rw[K2] at h;exact h.2.2 s z s Hj rfl
   show ss.foldl K12.step (K12.step acc s)=_;rw[show K12.step acc s=acc++[s] from HX hs,wS (by rw[Ib]; exact h),Ib];rfl
abbrev cps (l:List (L6×Str)):List K41.RR:=l.map λx=>Bg.rcopyV x.1 x.2 0
def sJ:∀l:List (L6×Str),((cps l).map (·.d)).flatMap K12.rowStrs=l.map (·.2)
 | []=>rfl
 | x::l=>by show K12.rowStrs (Bg.rcopyV x.1 x.2 0).d++((cps l).map (·.d)).flatMap K12.rowStrs=x.2::l.map (·.2);rw[sJ l];rfl
def rj {K:L7} {G:Hp}:∀{vs:List V} {ns:List Str},vs.length=ns.length->(∀(i:Nat) v,vs[i]?=⇑v->∃q n,ns[i]?=⇑n/\v=↥q/\aG K G q [.str "copy",.str n,.int 0])->∃la:List (L6×Str),vs=la.map (λx=>V.ref x.1)/\la.map (·.2)=ns/\∀x∈la,aG K G x.1 [.str "copy",.str x.2,.int 0]
 | [],[],_,_=>#[[],7,λx h=>by cases h]
 | [],_::_,h,_=>by cases h
 | _::_,[],h,_=>by cases h
 | v::vs,n::ns,l,h=>by
   let#[q,n',e1,rfl,e3]:=h 0 v rfl;cases e1;let#[la,rfl,rfl,a]:=rj (vs:=vs) (ns:=ns) ↑l λi v hv=>h (i+1) v ↑hv;show#[(q,n)::la,7,λx hx=>by
     rcases Hh.mp hx with rfl|hx
     . exact e3
     . exact a x hx]
def zx (xs:List V) (n:Nat):dH xs ⇑(n:Int) none=xs.drop n:=by
 unfold dH;rw[show HT.sIx xs.length 0 ⇑((n:Nat):Int)=min n xs.length from HT.sIx_nat _ _ n,HT.sIx_none];by_cases h:n<=xs.length
 . rw[KM h,Ic (by rw[J5]; exact HY _)]
 . rw[Kk ∅,List.drop_eq_nil_of_le (HY _),List.drop_eq_nil_of_le ∅,List.take_nil]
def Own.putK {Hb H H':Hp} {O:List (L6×HO)} {x:L6} {o o':HO} (h:Own Hb H O) (hx:Hb x=⇑o) (s:aB (ers x H) H') (e:H' x=⇑o'):Own (upd Hb x o') H' O:=by
 have k:∀p∈O,p.1≠x:=λp hp z=>by have:=h.no p hp; rw[z,hx] at this; cases this
 show#[λb u q=>?_,λp hp=>s _ _ (by rw[ak (k p hp)]; exact h.at_ p hp),λp hp=>by rw[aM (k p hp)]; exact h.no p hp,h.nd];by_cases z:b=x
 . subst z;rw[aH] at q;rw[e,q]
 . rw[aM z] at q;exact s _ _ (by rw[ak z]; exact h.b _ _ q)
def AV:∀{ws:List Str} {j:Nat} {n:Str},ws.Nodup->ws[j]?=⇑n->ws.idxOf n=j:=λ{ws j n} nd h=>by
 have hj:=(HV.mp h).1;have hm:=IA h;have hl:=J3 hm;have e:ws[ws.idxOf n]?=⇑n:=by rw[HU hl,List.getElem_idxOf]
 rw[<- h] at e;exact(K1 hl nd).mp e
abbrev gw (H:Hp):List (L6×HO)->Prop
 | []=>True
 | x::L=>H x.1=⇑x.2/\gw H L
abbrev Al (H0 H:Hp) (L:List (L6×HO)):Prop:=aB H0 H/\gw H L
section
variable {H0 H H':Hp} {L:List (L6×HO)} {q:L6} {o:HO}
def gw.mono (s:aB H H'):∀{L:List (L6×HO)},gw H L->gw H' L
 | [],_=>trivial
 | _::_,h=>#[s _ _ h.1,gw.mono s h.2]
def Al.nil:Al H H []:=#[aB.refl _,trivial]
def Al.mono (h:Al H0 H L) (s:aB H H'):Al H0 H' L:=#[h.1\s,h.2*>s]
def Al.re (h:Al H0 H L):Al H H L:=#[aB.refl _,h.2]
def Al.add (h:Al H0 H L) (e:H q=⇑o):Al H0 H ((q,o)::L):=#[h.1,e,h.2]
def Al.new (h:Al H0 H L) (k:H q=none):Al H0 (upd H q o) ((q,o)::L):=(h*>(aB.new k)).add aH
end
def df {cs:List Int} {n:Nat} (h:cs.length=n) (j:Nat) (hj:j<n):∃z,am (cs.map V.int) (j:Int)=⇑(.int z) :=
 #[cs[j]'∅,bp (by rw[Hk,HU ∅]; rfl)]
def md (c n:Int) (h:0<n):∃r:Nat,c%n=(r:Int)/\(r:Int)<n:=#[(c%n).toNat,by have:=JT c (Int.ne_of_gt h); lia,by have:=JT c (Int.ne_of_gt h); have:=JN c h; lia]
def uL {α:Type} {R:α->V->Prop} {P:α->Prop}:∀{vs:List V},(∀(i:Nat) v,vs[i]?=⇑v->∃t,R t v/\P t)->∃ts,Ps R vs ts/\(∀t∈ts,P t)/\ts.length=vs.length
 | [],_=>#[[],trivial,λt h=>(by cases h),rfl]
 | v::vs,h=>by let#[t,r,p]:=h 0 v rfl;let#[ts,a,b,c]:=uL (R:=R) (P:=P) (vs:=vs) λi w hw=>h (i+1) w ↑hw;show#[t::ts,#[r,a],λu hu=>(Hh.mp hu).elim (λz=>z ▸ p) (b u),by rw[II,II,c]]
end Cw
namespace L2
open PySem PySem.Spec PyProof.Rows
section
variable {X:Cx} {c:Expr} {a b:Stmt} {tc:TT} {ta tb:bn->XK->St->Hp->Prop} {pos:Pos}
abbrev xIf (tc:TT) (ta tb:bn->XK->St->Hp->Prop):bn->XK->St->Hp->Prop:=λD E σ H=>tc σ H λd H1=>if d=true then ta D E σ H1 else tb D E σ H1
def qB (hc:PT X.nox c tc) (ha:lA X a ta) (hb:lA X b tb):lA X (.If c [a] [b] pos) (xIf tc ta tb):=by
 intro pins s σ H D E I h;refine wpAny_If (Il (hc pins s σ H _ (I.wish _) h) (λd s1 q=>?_) λ_ _ z=>z.elim);let#[H1,I1,q1]:=q;have I1:=I1.unwish;cases d with
 | true =>
   refine Jb (Il (ha pins s1 σ H1 D E I1 q1) (λf s2 q=>?_) λev s2 q=>?_)
   . cases f with
     | next=>exact JO q
     | ret v=>exact q
     | brk=>exact q
     | cont=>exact q
   . exact q
 | false =>
   refine Jb (Il (hb pins s1 σ H1 D E I1 q1) (λf s2 q=>?_) λev s2 q=>?_)
   . cases f with
     | next=>exact JO q
     | ret v=>exact q
     | brk=>exact q
     | cont=>exact q
   . exact q
end
section
variable {X:Cx}
def vH (ns:List Int):∀j,j<=ns.length->preSum (λi=>ns.getD i 0) j=(ns.take j).sum
 | 0,_=>by simp [preSum]
 | j+1,h=>by
   have e:ns.take (j+1)=ns.take j++[ns[j]'∅]:=by rw[IM,HU (by lia:j<ns.length)]; rfl
   rw[preSum,vH ns j ∅,e,List.sum_append];simp [List.getD,(show j<ns.length by lia)]
abbrev CO (K:L7):List V->Hp->VK->Prop:=λxs H Q=>∃(p:L6) (ns:List Int),xs=[↥p]/\aE K H p (ns.map V.int)/\Q (.int ns.sum) H
def Bu (hc:X.calm=true):ao X (.builtin "sum") (CO X.K):=by
 intro pins s σ H xs us Q I r h;let#[p,ns,rfl,hp,q]:=h;let#[u,rfl,ru]:=gP r;cases (show u=Value.ref p from ru);let#[its,rv,pl,hz]:=I.list hp;have hlen:=rv.length;rw[HS] at hlen;have hne:p≠s.heap.objs.size:=IG pl.lt;refine call_sum_walkG (J0 pl.isList ?_);have W:=Walks.list (prog:=X.prog) (w:=X.w) (A:=X.A.in1) (I.ok.hd hc) s.heap.objs.size p hne its.toArray;show#[s.heap.objs.size,32,λi=>ns.getD i 0,rfl,W,#[#[_,Hs _ rfl,7],pl.isList.push _],?_,?_,λh' tk t' hk=>?_]
 . intro b hb;have hb':b=p\/b=s.heap.objs.size:=by simpa [or_comm] using hb
   rcases hb' with rfl|rfl
   . exact IB pl.lt (by simp [Heap.push])
   . simp [Heap.push]
 . intro i v hv;have hv':its[i]?=⇑v:=↑hv
   have hi:i<ns.length:=by rw[hlen]; exact(HV.mp hv').1
   have hb:(ns.map V.int)[i]?=⇑(.int ns[i]):=by simp [hi]
   let#[u',e1,t,r1]:=rv.get hb;rw[hv'] at e1;cases e1;show#[t,by rw[r1]; simp [List.getD,hi]]
 . have e:preSum (λi=>ns.getD i 0) its.toArray.size=ns.sum:=by rw[Hn,<- hlen,vH ns _ (HY _),IP]
   rw[e];show#[.int ns.sum,H,I.kept λb o q=>hk b o (λz=>by
     have z':b=s.heap.objs.size:=↑z
     rw[z'] at q;exact absurd (Hm q) (Ia _)) (HW _ q),#[t',rfl],q]
end
section
variable {X:Cx} {C f:L6} {m:Str} {o:Expr} {ta:TE} {k:Nat} {fd:FuncData} {ps:List Str} {sp:Sp} {apos pos:Pos}
def Fu {pl:Sem Bool} (he:PE X o ta) (c:Cls X.K C) (hm:Meth X.K C m f) (F:FnOkH X.prog X.w X.K X.mg X.base k f fd ps sp) (hr:RoomH k X.A) (hb:d9 X.K fd ps [])
   (ht:eval (.Call (.Attribute o m apos) [] [] pos) X.env=(do
     let ov <- eval o X.env
     standAt apos.atName
     let (f,first) <- holding [ov] (getMethod ov m pl)
     callWith pos f first (backTo pos (starEach [] X.env)) (backToKw pos (keywordEach [] X.env))):=by rfl) :
   PE X (.Call (.Attribute o m apos) [] [] pos) (kK C m sp [] E0 ta my):=by
 intro pins s σ H Q I h;refine PySem.W.methodCall_KW (pl:=pl) (aQ (he pins s σ H _ I h) λu s1 z215_=>?_) ht;let#[x,H1,I1,rx,a,dx,fs,ex,ea,l,q]:=z215_;subst ex;obtain rfl:u=Value.ref a:=rx;refine jo I1 ea c hm l ?_;refine PySem.W.callWith_K0 (first:=[↥a]) I1.kIn hm.kp ?_;have q:sp [↥a] H1 Q E0:=q;have hl:[Value.ref a].length=ps.length:=F.len _ _ _ _ q;have hb:BindsTo s1 fd ⟨[↥a],[]⟩ (ps.zip [↥a]):=by have:=hb s1 [↥a] I1.kIn (by rw[IQ]; exact hl);rwa [IQ] at this
 refine Jp (Jk (F.run X.A X.stack s1 H1 #[[↥a],[]] [↥a] [↥a] Q _ hr I1.env0 hb (.cons rfl .nil) q) λrr s' hq=>?_);cases rr with
 | error ev=>exact False.elim hq
 | ok fl =>
   cases fl with
   | ret u=>exact I1.after hq
   | next=>exact False.elim hq
   | brk=>exact False.elim hq
   | cont=>exact False.elim hq
end
end L2
namespace L2
open PySem
abbrev G9:TS:=λ_ _ _=>False
def zi {X:Cx} {L:List Stmt}:aO X L G9:=λ_ _ _ _ _ _ h=>h.elim
end L2
namespace Cw
open PySem PySem.W PyProof.Rows L2 Gx Fl Wk Rk2
section
variable {cW cF:L6} {Hb H H2:Hp} {w:Wr} {wt:L6} {fs:List Fm} {oc:V} {sent:List V} {cn:Cn} {wl:List V}
def bB.boxesAt {A B:List Fm} {f:Fm} {ks:List (aF×V)} (h:bB cW cF Hb H w wt (A++f::B) oc sent cn wl) (s:aB (ers f.bx H) H2) (e2:H2 f.bx=⇑(.dK ks)):bB cW cF Hb H2 w wt (A++{ f with kvs:=ks }::B) oc sent cn wl:=by
 have e:∀g:Fm,g.a=f.a->objs cW cF w wt (A++g::B) oc sent cn wl=((w.a,.ins cW w.dx (wG w oc cn.rc wt))::(w.st,.lst ((A.map λf:Fm=>V.ref f.a)++V.ref f.a::(B.map λf:Fm=>V.ref f.a)))::(w.sd,.lst sent)::(w.ct,.dT cn.kv)::(wt,.lst wl)::(A.flatMap (fO cF)++[(g.a,.ins cF g.dx (fF g))]))++(g.bx,.dK g.kvs)::B.flatMap (fO cF):=λg hg=>by unfold objs;rw[IZ,Hq,<- hg];simp [fO,K3]
 unfold bB at h ⊢;rw[e f rfl] at h;rw[e { f with kvs:=ks } rfl];exact Own.setK h s e2
end
def ur {n:Str} {ss:List Str} (h:n ∉ ss):eP (.str n) (ss.map V.str)=false:=(K12.inV_map n ss)\(IU h)
def jK {α:Type} {l:List α} {i:Nat} {x d:α} (h:l[i]?=⇑x):l.getD i d=x:=by rw[Ii,h]; rfl
def Bs (n:Nat):K13.Wf (List.replicate n ("copy":Str)++[("out":Str),"back"]):=by have g:=((K41.good_rep K13.good_nil (x:="copy") 0x4 0x4 0x4 n).plain (x:="out") 0x4 0x4 0x4).back;rw[Ku,Ib] at g;exact g
variable {K:L7} {H:Hp}
def Gp {nk lst:Str} {fa tr qC c b:L6} {fo:V} {ps:List Str} (la:List (L6×Str)) (h1:aG K H fa [.str nk,fo,↥qC,↥tr]) (h2:aG K H tr (la.map (λx=>V.ref x.1)++[↥c,↥b])) (h4:aG K H qC (ps.map V.str))
   (ha:∀x∈la,aG K H x.1 [.str "copy",.str x.2,.int 0]) (hc:aG K H c [.str "out",.str lst]) (hb:aG K H b [.str "back",.int 0]) (nd:(ps++la.map (·.2)).Nodup) (hl:lst∈ps++la.map (·.2)) (nm:∀w∈ps++la.map (·.2),K12.Nm w) (h6:(ps++la.map (·.2)).length<=50) :
   ∃F:F2.Fd,F2.FnAt K H F/\F.fa=fa/\F.name=nk/\F2.nms F=ps++la.map (·.2)/\F.ps.length=ps.length/\F.ps.length+F.rs.length=(ps++la.map (·.2)).length+2:=by
 rw[HZ,HS] at h6;have el:(cps la).length=la.length:=HS _;have F:=Bg.fn_mk2 (K:=K) (H:=H) (cps la++[K41.rone "out" c (.str lst),K41.rone "back" b (.int 0)]) h1 (by
   rw[Hq,show(cps la).map (λx=>V.ref x.w.r)=la.map λx=>V.ref x.1 by unfold cps; rw[Iq]; rfl];exact h2) (λx hx=>by
   rcases IH.mp hx with hx|hx
   . let#[y,hy,rfl]:=IJ.mp hx;exact Bg.ok_copyV (ha y hy) (nm _ (Hz _ (IJ.mpr #[y,hy,rfl])))
   . simp only[Hh,ID,or_false] at hx;rcases hx with rfl|rfl
     . exact K41.ok_out hc (K41.at_s (nm _ hl))
     . exact K41.ok_back hb (K41.at_i 0)) h4 (λs hs=>nm s (Ik _ hs)) ∅ (by rw[HZ,el]; show la.length+2<=100; lia) (by
   have e:(cps la).map (λx=>x.w.k)=List.replicate la.length ("copy":Str):=by unfold cps;rw[Iq];exact List.eq_replicate_iff.mpr #[HS _,λs hs=>by let#[y,_,rfl]:=IJ.mp hs; rfl]
   rw[Hq,e];exact Bs _)
 show#[_,F,7,?_,rfl,?_]
 . show K12.onceL (K12.allOf ps ((cps la++[K41.rone "out" c (.str lst),K41.rone "back" b (.int 0)]).map (·.d)))=_;unfold K12.onceL K12.allOf;rw[Hq,IZ,sJ,<- Ib,IX,wS (acc:=[]) ↑nd,Ku];refine um λs hs=>?_;have e:s=lst:=IC.mp hs;rw[e];exact hl
 . show ps.length+((cps la++[K41.rone "out" c (.str lst),K41.rone "back" b (.int 0)]).map (·.w)).length=_;rw[HS,HZ,el,HZ,HS];show ps.length+(la.length+2)=_
   lia
variable {xs:List V}
def eO {il b:L6} {its:List V}(hi:H il=⇑(.lst xs)) (h:aG K H b its):aG K (ers il H) b its:=by
 rcases h with(h|⟨o,h⟩)|h
 . exact .inl (.inl (by rw[ak (λz=>by rw[z,hi] at h; cases h)]; exact h))
 . exact .inl (.inr #[o,by rw[ak (λz=>by rw[z,hi] at h; cases h)]; exact h])
 . exact .inr h
def j6 {a b:L6} :ers a (ers b H)=ers b (ers a H):=by funext x;unfold L2.ers;split <;> split <;> rfl
section
variable {K:L7} {H0 H H':Hp} {l:L6} {xs:List V}
def bd.er {o:Hl Tr} {v:V} (hl:H l=⇑(.lst xs)) (h:bd H o v):bd (ers l H) o v:=by
 cases o with
 | none=>exact h
 | some t=>exact ph (t:=t) hl h
def dC.er {p:Str×Nat} {u:V} (hl:H l=⇑(.lst xs)) (h:dC K H p u):dC K (ers l H) p u:=by let#[q,h1,h2]:=h;show#[q,h1,eO hl h2]
def fh.er {c:L6} {ch:List (Str×Nat)} (hl:H l=⇑(.lst xs)) (h:fh K H c ch):fh K (ers l H) c ch:=by let#[us,h1,h2]:=h;show#[us,eO hl h1,Ps.imp (λ_ _ z=>z.er hl) h2]
def bd.er2 {k:L6} {ys:List V} {o:Hl Tr} {v:V} (hk:H k=⇑(.lst ys)) (hl:H l=⇑(.lst xs)) (n:k≠l) (h:bd H o v):bd (ers k (ers l H)) o v:=bd.er (xs:=ys) (by rw[ak n]; exact hk) (bd.er hl h)
abbrev gq (H0 H:Hp) (pl:List (Hl Tr)) (u:V):Prop:=∃q us,u=↥q/\H0 q=none/\H q=⇑(.lst us)/\Ps (bd H) us pl
abbrev oz (K:L7) (H0 H:Hp) (m:Mk) (u:V):Prop:=∃q c l us,u=↥q/\aG K H q [↥c,↥l]/\fh K H c m.ch/\H0 l=none/\H l=⇑(.lst us)/\Ps (gq H0 H) us m.vs
def gq.mono {pl:List (Hl Tr)} {u:V} (e:aB H H') (h:gq H0 H pl u):gq H0 H' pl u:=by let#[q,us,h1,h2,h3,h4]:=h;show#[q,us,h1,h2,e _ _ h3,Ps.imp (λ_ _ z=>bd.mono e z) h4]
def gq.er {pl:List (Hl Tr)} {u:V} (h:gq H0 H pl u) (hl:H l=⇑(.lst xs)) (h0:H0 l≠none):kF K (ers l H) pl u:=by let#[q,us,h1,h2,h3,h4]:=h;show#[q,us,h1,aE.of (by rw[ak (b:=q) (l:=l) λz=>h0 (by rw[<- z]; exact h2)]; exact h3),Ps.imp (λ_ _ z=>bd.er hl z) h4]
def oz.er {m:Mk} {u:V} (h:oz K H0 H m u) (hl:H l=⇑(.lst xs)) (h0:H0 l≠none):dE K (ers l H) m u:=by let#[q,c,l2,us,h1,h2,h3,h4,h5,h6]:=h;show#[q,c,l2,us,h1,eO hl h2,h3.er hl,aE.of (by rw[ak (b:=l2) (l:=l) λz=>h0 (by rw[<- z]; exact h4)]; exact h5),Ps.imp (λ_ _ z=>z.er hl h0) h6]
end
structure FnOk (F:F2.Fd):Prop where
 nd:(F2.nms F).Nodup
 n1:(F2.nms F).length<=20
 so:PyData.strOk F.name=true
 ns:∀w∈F2.nms F,PyData.strOk w=true
 ln:F.ps.length+F.rs.length=(F2.nms F).length+2
 r1:0<F.rs.length
structure MkP (fns:List F2.Fd) (ch:List (Str×Nat)) (vs:List (List (Option Tr))):Prop where
 len:vs.length=ch.length
 at_:∀(k:Nat) p pl,ch[k]?=⇑p->vs[k]?=⇑pl->∃F,F∈fns/\p.1=F.name/\pl.length=(F2.nms F).length/\∀u,⇑u∈pl->dO u
structure MkOk (fns:List F2.Fd) (m:Mk):Prop where
 p:MkP fns m.ch m.vs
 l1:1<=m.ch.length
 l3:m.ch.length<=3
def MkP.snoc {fns:List F2.Fd} {ch:List (Str×Nat)} {vs:List (List (Hl Tr))} {F:F2.Fd} {r:Nat} {pl:List (Hl Tr)} (h:MkP fns ch vs) (hF:F∈fns) (hl:pl.length=(F2.nms F).length) (ok:∀u,⇑u∈pl->dO u):MkP fns (ch++[(F.name,r)]) (vs++[pl]):=by
 show#[by rw[HZ,HZ,h.len]; rfl,λk p q e1 e2=>?_];by_cases hk:k<ch.length
 . rw[IV hk] at e1;rw[IV (by rw[h.len]; exact hk)] at e2;exact h.at_ k p q e1 e2
 . rw[IS ∅] at e1;rw[IS (by rw[h.len]; lia),h.len] at e2;have hz:k - ch.length=0:=by
     have:=(HV.mp e1).1;simp at this
     lia
   rw[hz] at e1 e2;cases e1;cases e2;show#[F,hF,rfl,hl,ok]
def tD (n:Nat):cX (n+1) (-1)=⇑n:=by
 unfold cX;simp
 lia
def wT {t:Tr} (h:Bg.TOk' 7 t):dO t:=#[by have:=h.2.2.1; lia,h.1]
def pe {α β:Type} (f:α->List β):∀(L:List α) (n:Nat) (p:β),(L.flatMap f)[n]?=⇑p->∃i x k,L[i]?=⇑x/\(f x)[k]?=⇑p/\n=((L.take i).flatMap f).length+k
 | [],n,p,h=>by simp at h
 | a::L,n,p,h=>by
   rw[K3] at h;by_cases hn:n<(f a).length
   . rw[IV hn] at h;show#[(0),a,n,rfl,h,(KH _).symm]
   . rw[IS ∅] at h;let#[i,x,k,h1,h2,h3]:=pe f L _ p h;show#[i+1,x,k,h1,h2,by rw[List.take_succ_cons,K3,HZ]; lia]
def vd {P:Nat->List Str->Prop}:∀n:Nat,(∀k,k<n->∃s,P k s)->∃nm:List (List Str),nm.length=n/\∀k,k<n->∃s,nm[k]?=⇑s/\P k s
 | 0,_=>#[[],rfl,λk hk=>absurd hk (Ir _)]
 | n+1,h=>by
   let#[nm,l,a]:=vd n λk hk=>h k ∅;let#[s,hs]:=h n (Iw _);show#[nm++[s],by rw[HZ,l]; rfl,λk hk=>?_];by_cases hk':k<n
   . let#[s,h1,h2]:=a k hk';show#[s,by rw[IV ∅]; exact h1,h2]
   . obtain rfl:k=n:=by lia
     show#[s,by rw[IS ∅,l,Nat.sub_self]; rfl,hs]
def uk {v:V} {vs:List V} {n:Nat} (l:vs.length=n) (h:∀(i:Nat) u,vs[i]?=⇑u->u=v):vs=List.replicate n v:=List.eq_replicate_iff.mpr #[l,λb hb=>by let#[i,hi]:=JU.mp hb;exact h i b hi]
def qz {Hb H':Hp}{a:L6} (h:H a=none) (q:aG K H' a xs):aG K (gr Hb H H') a xs:=by
 have e:gr Hb H H' a=H' a:=by unfold gr; rw[h]
 rcases q with(q|⟨o,q⟩)|q
 . exact .inl (.inl (e\q))
 . exact .inl (.inr #[o,e\q])
 . exact .inr q
def qQ {Hb H':Hp}{a:L6} (h:H a=none) (q:aE K H' a xs):aE K (gr Hb H H') a xs:=by
 have e:gr Hb H H' a=H' a:=by unfold gr; rw[h]
 rcases q with(q|⟨o,q⟩)|q
 . exact .inl (.inl (e\q))
 . exact .inl (.inr #[o,e\q])
 . exact .inr q
def nmk_ne {W:List Nat} {a:Nat} {n:Int} {k:Nat}:K41.nmk W a n k≠"":=λh=>by
 have e:=Hr Str.length h;unfold K41.nmk at e;have z:("":Str).length=0:=rfl;split at e
 . rw[dW,HZ,z] at e;simp at e
 . rw[dW,K41.bse_len,z] at e
   lia
def EF {l:L6} (hl:H l=⇑(.lst xs)) {ys as:List V} {gx:Hl Str} (h:K12.RowS K H ys gx as):K12.RowS K (ers l H) ys gx as:=by cases h <;> constructor;exact eO hl (by assumption)
def tf {l:L6} {F:F2.Fd} (hl:H l=⇑(.lst xs)) (h:F2.FnAt K H F):F2.FnAt K (ers l H) F:=by
 show#[eO hl h.fn,eO hl h.pr,eO hl h.rw_,λw hw=>?_,#[?_,λd hd=>?_,h.fu.pn,h.fu.pl,h.fu.dl],h.wf,h.len]
 . let#[r,a,b]:=h.rk w hw;show#[r,eO hl a,b]
 . let#[n,b,p,r,h1,h2,h3]:=h.fu.fn;show#[n,b,p,r,eO hl h1,eO hl h2,eO hl h3]
 . have D:=h.fu.rows d hd;let#[ys,h1,h2]:=D.row;show#[#[ys,eO hl h1,EF hl h2],D.ats,D.len,D.nm]
def AE {ys:List Str} (h:∀y∈ys,y.length<=1):(PySem.Txt.join "" ys).length<=ys.length:=by
 have e:ys=(ys.map λy=>y.cps.toList).map tx:=by rw[Iq];exact(List.map_id' ys).symm.trans (KQ λy _=>mK y)
 rw[e,qw,dW,HS,HS];clear e
 induction ys with
 | nil=>exact HY _
 | cons y ys ih =>
   have h1:y.cps.toList.length<=1:=by have:=h y Hj;rw[mK y,dW] at this;exact this
   have h2:=ih λz hz=>h z (Hv _ hz);rw[IF,J2,HZ,II]
   lia
def m6 {P:Str->Prop}:∀{vs:List V},(∀(i:Nat) v,vs[i]?=⇑v->∃s,v=V.str s/\P s)->∃ys:List Str,vs=ys.map V.str/\∀y∈ys,P y
 | [],_=>#[[],rfl,λy h=>(by cases h)]
 | v::vs,h=>by let#[s,rfl,hs]:=h 0 v rfl;let#[ys,rfl,hy]:=m6 (vs:=vs) λi w hw=>h (i+1) w ↑hw;show#[s::ys,rfl,λy h=>(Hh.mp h).elim (λz=>z ▸ hs) (hy y)]
def Bh {s:Str} (h:s≠""):(PySem.Txt.slice s none (some 1)).length<=1:=by
 have hl:1<=s.cps.toList.length:=by
   cases e:s.cps.toList with
   | nil=>exact absurd ((mK s)\(by rw[e]; rfl)) h
   | cons x l=>simp
 rw[mK s,show((1:Int))=((1:Nat):Int) from rfl,K41.tx_to hl,dW,IE]
 lia
def Aq (a b:List (aF×V)):(eN a b).length<=a.length+b.length:=by
 induction b generalizing a with
 | nil=>exact HY _
 | cons x b ih =>
   have:=ih (putK a x.1 x.2);have h2:=putK_len a x.1 x.2;show(eN (putK a x.1 x.2) b).length<=_;rw[II]
   lia
def BV {Fa Fb Fc:F2.Fd} {w0 w1 w2 al:L6} (nd:([Fa.name,Fb.name,Fc.name]:List Str).Nodup) (ne:∀s∈[Fa.name,Fb.name,Fc.name],s≠"") (h0:H w0=⇑(.lst ((F2.nms Fa).map V.str))) (h1:H w1=⇑(.lst ((F2.nms Fb).map V.str))) (h2:H w2=⇑(.lst ((F2.nms Fc).map V.str))) :
   ∀F∈[Fa,Fb,Fc],∃nl,aq (putK (eN [] [(Sum.inr Fa.name,V.ref w0),(Sum.inr Fb.name,↥w1),(Sum.inr Fc.name,↥w2)]) (Sum.inr "":aF) ↥al) (Sum.inr F.name:aF)=⇑↥nl/\aE K H nl ((F2.nms F).map V.str):=λF hF=>by
 simp only[JP,Hh,ID,or_false,not_or] at nd;obtain⟨⟨n1,n2⟩,n3,-⟩:=nd;have k:∀{a b:Str},a≠b->(Sum.inr a:aF)≠Sum.inr b:=λh z=>h (Sum.inr.inj z);simp only[Hh,ID,or_false] at hF ne;rcases hF with rfl|rfl|rfl
 . show#[w0,?_,aE.of h0];rw[cZ,HX (k (ne _ (.inl rfl)))];show aq (putK (putK (putK [] _ _) _ _) _ _) _=_;rw[cZ,HX (k n2),cZ,HX (k n1),cZ,He rfl]
 . show#[w1,?_,aE.of h1];rw[cZ,HX (k (ne _ (.inr (.inl rfl))))];show aq (putK (putK (putK [] _ _) _ _) _ _) _=_;rw[cZ,HX (k n3),cZ,He rfl]
 . show#[w2,?_,aE.of h2];rw[cZ,HX (k (ne _ (.inr (.inr rfl))))];show aq (putK (putK (putK [] _ _) _ _) _ _) _=_;rw[cZ,He rfl]
end Cw
namespace K38
open PySem L2 Gx Fl Cw
open Bg (TOk' BxL)
abbrev ai (i:Nat):Stmt:=PySem.Challenge.pw_stopglass_k38_told_by_places.main.body.getD i (.Pass #[(0),(0),(0),(0)])
noncomputable abbrev jH:Stmt:=ai 8
noncomputable abbrev lZ:Stmt:=ai 9
noncomputable abbrev lh:Stmt:=ai 10
noncomputable abbrev mJ:Stmt:=ai 11
noncomputable abbrev m8:Stmt:=ai 12
noncomputable abbrev i4:Stmt:=ai 13
noncomputable abbrev jq:Stmt:=ai 14
noncomputable abbrev jG:Stmt:=ai 15
noncomputable abbrev eV:Stmt:=c6 (ai 16) 0
noncomputable abbrev mE:Stmt:=ai 19
noncomputable abbrev nU:Stmt:=ai 22
noncomputable abbrev nJ:Stmt:=ai 25
noncomputable abbrev kW:Stmt:=ai 26
noncomputable abbrev kq:Stmt:=ai 27
noncomputable abbrev iF:Stmt:=c6 (ai 28) 0
noncomputable abbrev mZ:Stmt:=c6 (ai 28) 1
noncomputable abbrev nE:Stmt:=c6 (ai 28) 3
noncomputable abbrev kC:Stmt:=c6 (ai 28) 2
noncomputable abbrev mP:Stmt:=c6 (ai 20) 1
noncomputable abbrev oE:Stmt:=c6 (ai 20) 2
noncomputable abbrev nj:Stmt:=c6 (ai 29) 6
noncomputable abbrev nt:Stmt:=c6 (ai 29) 10
noncomputable abbrev nY:Stmt:=c6 (ai 29) 11
noncomputable abbrev mi:Stmt:=c6 (ai 29) 4
noncomputable abbrev hU:Stmt:=c6 (ai 29) 5
noncomputable abbrev nS:Stmt:=c6 (ai 20) 14
noncomputable abbrev nG:Stmt:=c6 (ai 20) 12
noncomputable abbrev nM:Stmt:=c6 (ai 20) 13
noncomputable abbrev iA:Stmt:=c6 (ai 29) 1
noncomputable abbrev nB:Stmt:=c6 (ai 29) 7
noncomputable abbrev oK:Stmt:=c6 (ai 20) 6
noncomputable abbrev gL:Stmt:=c6 (ai 29) 2
noncomputable abbrev mY:Stmt:=c6 (ai 29) 3
noncomputable abbrev kB:Stmt:=c6 (ai 20) 5
noncomputable abbrev lj:Stmt:=c6 (ai 29) 9
noncomputable abbrev kZ:Stmt:=c6 (ai 29) 14
noncomputable abbrev j7:Stmt:=c6 (ai 29) 12
noncomputable abbrev gp:Stmt:=c6 (ai 29) 8
noncomputable abbrev mF:Stmt:=c6 (ai 20) 7
noncomputable abbrev gJ:Stmt:=c6 (ai 20) 0
noncomputable abbrev gZ:Stmt:=c6 (ai 29) 0
noncomputable abbrev me:Stmt:=ai 31
noncomputable abbrev lq:Stmt:=ai 32
noncomputable abbrev nV:Stmt:=ai 33
noncomputable abbrev mq:Stmt:=ai 34
noncomputable abbrev fk:Stmt:=ai 35
noncomputable abbrev nv:Stmt:=ai 37
noncomputable abbrev gv:Stmt:=ai 36
noncomputable abbrev jm:Stmt:=ai 38
noncomputable abbrev io:Stmt:=ai 39
noncomputable abbrev km:Stmt:=ai 40
noncomputable abbrev jC:Stmt:=ai 41
noncomputable abbrev mS:Stmt:=ai 42
noncomputable abbrev jQ:Stmt:=ai 43
noncomputable abbrev jn:Stmt:=ai 44
noncomputable abbrev eY:Stmt:=ai 45
noncomputable abbrev gX:Stmt:=ai 46
noncomputable abbrev da:Stmt:=ai 47
noncomputable abbrev cb:Stmt:=ai 48
set_option genInjectivity false in
set_option genSizeOf false in
structure Adr where
 x_gE:Addr
 x_nN:Addr
 cg:Addr
 bj:Addr
 yD:Addr
 bF:Addr
 dZ:Addr
 xx:Addr
 zB:FuncData
 xy:Addr
 zC:FuncData
 xV:Addr
 ym:FuncData
 xR:Addr
 yi:FuncData
 xT:Addr
 yk:FuncData
 yC:Addr
 zG:FuncData
 xS:Addr
 yj:FuncData
 xU:Addr
 yl:FuncData
 xI:Addr
 yW:FuncData
 yB:Addr
 zF:FuncData
 lO:Addr
 lR:FuncData
 xz:Addr
 zD:FuncData
 yA:Addr
 zE:FuncData
 xu:Addr
 zA:FuncData
 ww:Addr
 yG:FuncData
 wx:Addr
 yH:FuncData
 wu:Addr
 yF:FuncData
 wr:Addr
 yE:FuncData
 xL:Addr
 yZ:FuncData
 rM:Addr
 rO:FuncData
 xC:Addr
 yQ:FuncData
 xF:Addr
 yT:FuncData
 xA:Addr
 yO:FuncData
 x3:Addr
 yJ:FuncData
 xE:Addr
 yS:FuncData
 xO:Addr
 yf:FuncData
 xJ:Addr
 yX:FuncData
 xK:Addr
 yY:FuncData
 xD:Addr
 yR:FuncData
 xG:Addr
 yU:FuncData
 xQ:Addr
 yh:FuncData
 xB:Addr
 yP:FuncData
 x5:Addr
 yL:FuncData
 xM:Addr
 yd:FuncData
 wy:Addr
 yI:FuncData
 x6:Addr
 yM:FuncData
 x4:Addr
 yK:FuncData
 xH:Addr
 yV:FuncData
 xP:Addr
 yg:FuncData
 xN:Addr
 ye:FuncData
 x9:Addr
 yN:FuncData
 xW:Addr
 yn:FuncData
 xr:Addr
 z9:FuncData
 xp:Addr
 z7:FuncData
 xj:Addr
 yx:FuncData
 xi:Addr
 yw:FuncData
 lN:Addr
 lQ:FuncData
 xl:Addr
 yz:FuncData
 lL:Addr
 lP:FuncData
 xY:Addr
 yp:FuncData
 xZ:Addr
 yq:FuncData
 xf:Addr
 yr:FuncData
 xk:Addr
 yy:FuncData
 xg:Addr
 yt:FuncData
 xh:Addr
 yu:FuncData
 xm:Addr
 z6:FuncData
 xX:Addr
 yo:FuncData
 xq:Addr
 z8:FuncData
 xt:Addr
 oM:FuncData
 rJ:Addr
 rL:Addr
 rK:Addr
structure Txt (K:W.Frag) (mg:Str->Option Value) (t:Adr):Prop where
 x_gE:XClsOk K mg "GlassError" t.x_gE
 x_nN:XClsOk K mg "NoName" t.x_nN
 cg:XClsOk K mg "Ended" t.cg
 i0_nN:W.findIn K ↥t.x_nN "__init__"=⇑⇑(.builtin "ValueError.__init__")
 e_nN:W.mroIn K t.x_nN ↥t.x_gE=⇑true
 k_NoName_nN:W.kitOne K ↥t.x_nN ↥t.x_nN=⇑true
 k_NoName_Ended:W.kitOne K ↥t.x_nN ↥t.cg=⇑false
 v_nN:W.kitOne K ↥t.x_nN (.type "ValueError")=⇑true
 i0_Ended:W.findIn K ↥t.cg "__init__"=⇑⇑(.builtin "ValueError.__init__")
 e_Ended:W.mroIn K t.cg ↥t.x_gE=⇑true
 k_Ended_nN:W.kitOne K ↥t.cg ↥t.x_nN=⇑false
 k_Ended_Ended:W.kitOne K ↥t.cg ↥t.cg=⇑true
 v_Ended:W.kitOne K ↥t.cg (.type "ValueError")=⇑true
 names_of:DefOk K mg "names_of" jH ["function"] t.xx t.zB
 reads:DefOk K mg "reads" lZ ["row"] t.xy t.zC
 gives:DefOk K mg "gives" lh ["row"] t.xV t.ym
 atoms_of:DefOk K mg "atoms_of" mJ ["row"] t.xR t.yi
 each_once:DefOk K mg "each_once" m8 ["names"] t.xT t.yk
 ways:DefOk K mg "ways" i4 ["rows"] t.yC t.zG
 begins_of:DefOk K mg "begins_of" jq ["rows"] t.xS t.yj
 firsts_behind:DefOk K mg "firsts_behind" jG ["rows","begins"] t.xU t.yl
 wq:IniOk K t.bj "Flows.__init__" eV ["self","program"] t.xI t.yW
 value:DefOk K mg "value" mE ["sign","one","other"] t.yB t.zF
 worth:DefOk K mg "worth" nU ["one","boxes"] t.lO t.lR
 reckonings_of:DefOk K mg "reckonings_of" nJ ["act"] t.xz t.zD
 spots_by_name:DefOk K mg "spots_by_name" kW ["code"] t.yA t.zE
 marks_by_name:DefOk K mg "marks_by_name" kq ["table"] t.xu t.zA
 wn:IniOk K t.dZ "CodeFrame.__init__" iF ["self","function","args","first"] t.ww t.yG
 lD:MetOk K t.dZ "worths_of" "CodeFrame.worths_of" mZ ["self","reckonings"] t.wx t.yH
 iO:MetOk K t.dZ "give" "CodeFrame.give" nE ["self","box","number"] t.wu t.yF
 lC:MetOk K t.dZ "do_sets" "CodeFrame.do_sets" kC ["self","sets"] t.wr t.yE
 iW:MetOk K t.bF "ended" "Walker.ended" mP ["self"] t.xL t.yZ
 rF:MetOk K t.bF "answer" "Walker.answer" oE ["self"] t.rM t.rO
 fJ:MetOk K t.bF "owner_of" "CodeWalker.owner_of" nj ["self","level"] t.xC t.yQ
 lI:MetOk K t.bF "spot_of" "CodeWalker.spot_of" nt ["self","frame"] t.xF t.yT
 iR:MetOk K t.bF "mark_of" "CodeWalker.mark_of" nY ["self","frame"] t.xA t.yO
 iQ:MetOk K t.bF "chain_of" "CodeWalker.chain_of" mi ["self","frame"] t.x3 t.yJ
 lH:MetOk K t.bF "shown_at" "CodeWalker.shown_at" hU ["self","level"] t.xE t.yS
 iZ:MetOk K t.bF "names_at" "Walker.names_at" nS ["self","level"] t.xO t.yf
 iV:MetOk K t.bF "ask_for_level" "Walker.ask_for_level" nG ["self","level"] t.xJ t.yX
 lJ:MetOk K t.bF "ask_for_name" "Walker.ask_for_name" nM ["self","level","name"] t.xK t.yY
 iU:MetOk K t.bF "place" "CodeWalker.place" iA ["self","level","name"] t.xD t.yR
 rD:MetOk K t.bF "tell" "CodeWalker.tell" nB ["self","level","name"] t.xG t.yU
 lK:MetOk K t.bF "told" "Walker.told" oK ["self","level","name"] t.xQ t.yh
 iS:MetOk K t.bF "mates" "CodeWalker.mates" gL ["self","level"] t.xB t.yP
 lF:MetOk K t.bF "fill_box" "CodeWalker.fill_box" mY ["self","level","box","number"] t.x5 t.yL
 rG:MetOk K t.bF "frames" "Walker.frames" kB ["self"] t.xM t.yd
 lE:MetOk K t.bF "begin" "CodeWalker.begin" lj ["self","function","args"] t.wy t.yI
 rC:MetOk K t.bF "go_back" "CodeWalker.go_back" kZ ["self","number"] t.x6 t.yM
 rB:MetOk K t.bF "do_act" "CodeWalker.do_act" j7 ["self","frame","act","worths"] t.x4 t.yK
 rE:MetOk K t.bF "walk_on" "CodeWalker.walk_on" gp ["self"] t.xH t.yV
 gU:MetOk K t.bF "step" "Walker.step" mF ["self"] t.xP t.yg
 rH:BasOk K t.yD "__init__" "Walker.__init__" gJ ["self","program"] t.xN t.ye
 wo:IniOk K t.bF "CodeWalker.__init__" gZ ["self","program","code","table","args"] t.x9 t.yN
 zH:DefOk K mg "_law_cell_at" me ["_law_script","_law_k"] t.xW t.yn
 lT:DefOk K mg "_law_whole" lq ["_law_found"] t.xr t.z9
 zN:DefOk K mg "_law_value" nV ["_law_sign","_law_one","_law_other"] t.xp t.z7
 lS:DefOk K mg "_law_number" mq ["_law_cell"] t.xj t.yx
 rR:DefOk K mg "_law_names" fk ["_law_cell","_law_many"] t.xi t.yw
 jW:DefOk K mg "_law_worth" nv ["_law_one","_law_boxes"] t.lN t.lQ
 rT:DefOk K mg "_law_some" gv ["_law_cell","_law_boxes"] t.xl t.yz
 jV:DefOk K mg "_law_alike" jm ["_law_found","_law_due"] t.lL t.lP
 zJ:DefOk K mg "_law_frames" io ["_law_found","_law_due"] t.xY t.yp
 zK:DefOk K mg "_law_function" km ["_law_own","_law_names_here","_law_many"] t.xZ t.yq
 zL:DefOk K mg "_law_mark" jC ["_law_cell","_law_program","_law_first","_law_boxes"] t.xf t.yr
 rS:DefOk K mg "_law_refused" mS ["_law_walker","_law_way","_law_level","_law_name"] t.xk t.yy
 rQ:DefOk K mg "_law_mates" jQ ["_law_found","_law_due"] t.xg t.yt
 zM:DefOk K mg "_law_name_told" jn ["_law_walker","_law_level","_law_name","_law_place","_law_boxes"] t.xh t.yu
 ia:DefOk K mg "_law_stands" eY ["_law_walker","_law_own","_law_names_here","_law_high"] t.xm t.z6
 rP:DefOk K mg "_law_filled" gX ["_law_walker","_law_own","_law_cell","_law_box","_law_number_here"] t.xX t.yo
 zP:DefOk K mg "_law_walked" da ["_law_walker","_law_names_here","_law_marks","_law_now","_law_more"] t.xq t.z8
 law:DefOk K mg "law" cb ["_law_script"] t.xt t.oM
 dM:ClsOk K mg "Flows" t.bj
 HM:ClsOk K mg "Walker" t.yD
 aZ:ClsOk K mg "CodeWalker" t.bF
 c9:ClsOk K mg "CodeFrame" t.dZ
 ja:cC K t.bj "last"
 jb:cC K t.bj "number_of"
 jZ:cC K t.bj "folded_of"
 jc:cC K t.bj "params_of"
 jd:cC K t.bj "rows_of"
 ig:cC K t.bj "names_in"
 je:cC K t.bj "ways_in"
 ic:cC K t.bF "flows"
 dy:cC K t.bF "stack"
 ie:cC K t.bF "outcome"
 lX:cC K t.bF "sendings"
 lU:cC K t.bF "contents"
 lV:cC K t.bF "records"
 jY:cC K t.bF "spots_of"
 jX:cC K t.bF "marks_of"
 fK:cC K t.bF "waiting"
 ib:cC K t.dZ "function"
 gV:cC K t.dZ "spot"
 gs:cC K t.dZ "boxes"
 eQ:cC K t.dZ "first"
 rN:∃tk,mg "WIDE"=⇑(.int 281474976710656 tk)
 HK:mg "GIVING_KINDS"=⇑↥t.rJ
 HN:∀H:Hp,aG K H t.rJ (K12.giving.map V.str)
 HJ:mg "ATOM_PLACES"=⇑↥t.rL
 HQ:nC K t.rL K12.tabl
 HL:mg "RECKONING_PLACES"=⇑↥t.rK
 HP:nC K t.rK rtab
 b_ValueError:mg "ValueError"=none
 b_sum:mg "sum"=none
 b_len:mg "len"=none
 b_list:mg "list"=none
 b_tuple:mg "tuple"=none
 b_isinstance:mg "isinstance"=none
 b_range:mg "range"=none
 b_enumerate:mg "enumerate"=none
 b_dict:mg "dict"=none
 b_str:mg "str"=none
 b_int:mg "int"=none
 b_zip:mg "zip"=none
 b_bool:mg "bool"=none
 bl:∀(s:Shared) (u:Value),BindsTo s t.oM #[[u],[]] [("_law_script",u)]
def lx {X:Cx} {L:List Stmt} {R:TS->Prop} (f:let XX:=X; ∃t,aO XX L t/\R t):∃t,aO X L t/\R t:=f
variable {fns:List F2.Fd} {wl:List V}
section
variable {P:Program} {w:World} {K:L7} {mg:Str->Hl K'} {base:Heap} {t:Adr}
noncomputable abbrev CA (t:Adr) (Hb H:Hp) (w:Wr) (wt:L6) (fs:List Fm) (oc:V) (sent:List V) (cn:Wk.Cn) (wl:List V):Prop:=bB t.bF t.dZ Hb H w wt fs oc sent cn wl
structure FrAt (t:Adr) (H:Hp) (f:Fm):Prop where
 o:H f.a=⇑(.ins t.dZ f.dx (fF f))
 n:H f.bx=⇑(.dK f.kvs)
structure Dt (K:W.Frag) (t:Adr) (Hb:Hp) (w:Wr) (fns:List F2.Fd) (cs:List (Str×List Spt)) (ms:List 0x8):Prop where
 fl:F2.FlowsAt K t.bj Hb w.fl fns
 sp:kt K Hb w.sp cs
 mp:jw K Hb w.mp ms
def Dt.mono {Hb Hb':Hp} {w:Wr} {fns:List F2.Fd} {cs:List (Str×List Spt)} {ms:List 0x8} (h:Dt K t Hb w fns cs ms) (e:aB Hb Hb'):Dt K t Hb' w fns cs ms:=#[h.fl*>e,h.sp*>e,h.mp*>e]
abbrev DC (K:L7) (t:Adr):L2.Sp:=λvs H Q _=>∃(x dx p:L6) (fns:List F2.Fd),vs=[↥x,↥p]/\H x=⇑(.ins t.bj dx [])/\aE K (ers x H) p (fns.map λf=>V.ref f.fa)/\fns≠[]/\fns.length<=12/\(∀f∈fns,F2.FnAt K (ers x H) f)/\(fns.map (·.name)).Nodup /\
 ∀H',aB (ers x H) H'->F2.FlowsAt K t.bj H' x fns->Q .non H'
abbrev Ah (K:L7):L2.Sp:=λvs H Q _=>∃(s:Str) (a b:Int),vs=[.str s,.int a,.int b]/\0<=a/\0<=b/\a<K21.wide/\b<K21.wide/\Q (.int (K21.valOf s a b)) H
abbrev nA (K:L7) (n:Nat):L2.Sp:=λvs H Q _=>∃(tr:Rk2.Tr) (v:V) (d:L6) (kvs:List (aF×V)),vs=[v,↥d]/\Rk2.dp tr<n/\Rk2.RAt H tr v/\H d=⇑(.dK kvs)/\Rk2.DV kvs/\Rk2.okl (Rk2.lvs tr)/\Q (.int (Rk2.wv (Rk2.fOf kvs) tr)) H
abbrev F8 (K:L7):L2.Sp:=λvs H Q _=>∃(a:Ac) (v:V),vs=[v]/\iC K H a v/\(fU a).length<=100/\∀l us H',aB H H'->H l=none->H' l=⇑(.lst us)->Rk2.Ps (Rk2.RAt H') us (fU a)->Q ↥l H'
abbrev zn (K:L7):L2.Sp:=λvs H Q _=>∃(v:V) (cs:List (Str×List Spt)) (Hb:Hp),vs=[v]/\aB Hb H/\im K Hb v cs/\(cs.map (·.1)).Nodup/\cs.length<=100/\(∀c∈cs,c.2.length<=1000/\∀s∈c.2,s.sets.length<=1000)/\∀d H',aB H H'->kt K (Wk.gr Hb H H') d cs->Q ↥d H'
abbrev FI (K:L7):L2.Sp:=λvs H Q _=>∃(v:V) (ms:List 0x8) (Hb:Hp),vs=[v]/\aB Hb H/\ip K Hb v ms/\(ms.map (·.1)).Nodup/\ms.length<=100/\(∀c∈ms,c.2.length<=1000/\∀m∈c.2,m.vs.length<=1000/\∀p∈m.vs,p.length<=1000)/\∀d H',aB H H'->jw K (Wk.gr Hb H H') d ms->Q ↥d H'
abbrev DR (K:L7) (t:Adr):L2.Sp:=λvs H Q _=>∃(x dx ar:L6) (g:Str) (ys:List V) (n:Nat),vs=[↥x,.str g,↥ar,.int n]/\H x=⇑(.ins t.dZ dx [])/\aE K (ers x H) ar ys/\ys.length<=1000 /\
 ∀bx H',H bx=none->aB (ers x H) H'->FrAt t H' #[x,dx,bx,g,(0),bX ys,n]->Q .non H'
abbrev Cy (K:L7) (t:Adr):L2.Sp:=λvs H Q _=>∃(f:Fm) (l:L6) (us:List V) (ts:List Rk2.Tr),vs=[↥f.a,↥l]/\FrAt t H f/\aE K H l us/\Rk2.Ps (Rk2.RAt H) us ts/\(∀u∈ts,dO u)/\Rk2.DV f.kvs/\ts.length<=1000 /\
 ∀l' H',aB H H'->H l'=none->H' l'=⇑(.lst ((ts.map (Rk2.wv (Rk2.fOf f.kvs))).map V.int))->Q ↥l' H'
abbrev Bx (K:L7) (t:Adr):L2.Sp:=λvs H Q _=>∃(f:Fm) (b:Hl Int) (z:Int),vs=[↥f.a,kj b,.int z]/\FrAt t H f/\f.kvs.length<100000 /\
 ∀H',aB (ers f.bx H) H'->H' f.bx=⇑(.dK (iG f.kvs b z))->Q .non H'
abbrev DK (K:L7) (t:Adr):L2.Sp:=λvs H Q _=>∃(f:Fm) (p:L6) (us:List V) (ss:List (Int×Rk2.Tr)),vs=[↥f.a,↥p]/\FrAt t H f/\aG K (ers f.bx H) p us/\Rk2.Ps (iq K (ers f.bx H)) us ss/\(∀u∈ss,dO u.2)/\Rk2.DV f.kvs/\ss.length<=1000/\f.kvs.length<=10000 /\
 ∀H',aB (ers f.bx H) H'->H' f.bx=⇑(.dK (setK f.kvs ss))->Q .non H'
abbrev ce (K:L7) (t:Adr) (Hb H:Hp) (w:Wr) (wt:L6) (fs:List Fm) (wl:List V) (fns:List F2.Fd) (cs:List (Str×List Spt)) (ms:List 0x8):Prop:=∃oc sent cn,CA t Hb H w wt fs oc sent cn wl/\Dt K t Hb w fns cs ms/\wl.length<=100/\fs.length<=100
def ce.keep {K:L7} {t:Adr} {Hb H H2:Hp} {w:Wr} {wt:L6} {fs:List Fm} {wl:List V} {fns:List F2.Fd} {cs:List (Str×List Spt)} {ms:List 0x8} (h:ce K t Hb H w wt fs wl fns cs ms) (s:aB H H2):ce K t Hb H2 w wt fs wl fns cs ms:=by let#[oc,sent,cn,h1,h2]:=h;show#[oc,sent,cn,Own.keep h1 s,h2]
abbrev Gi (K:L7) (t:Adr):L2.Sp:=λvs H Q _=>∃(w:Wr) (wt:L6) (fs:List Fm) (oc:V) (sent:List V) (cn:Wk.Cn) (wl:List V) (Hb:Hp),vs=[↥w.a]/\CA t Hb H w wt fs oc sent cn wl/\fs.length<=100/\Q (.bl (decide (fs=[]))) H
abbrev tJ (K:L7) (t:Adr):L2.Sp:=λvs H Q _=>∃(w:Wr) (wt:L6) (fs:List Fm) (oc:V) (sent:List V) (cn:Wk.Cn) (wl:List V) (Hb:Hp),vs=[↥w.a]/\CA t Hb H w wt fs oc sent cn wl/\Q oc H
abbrev DT (K:L7) (t:Adr):L2.Sp:=λvs H Q _=>∃(w:Wr) (wt:L6) (fs:List Fm) (wl:List V) (fns:List F2.Fd) (cs:List (Str×List Spt)) (ms:List 0x8) (Hb:Hp) (i:Nat) (f:Fm),vs=[↥w.a,.int i]/\ce K t Hb H w wt fs wl fns cs ms/\Ow fs wl i f/\Q ↥f.a H
abbrev Ek (K:L7) (t:Adr):L2.Sp:=λvs H Q _=>∃(w:Wr) (wt:L6) (fs:List Fm) (wl:List V) (fns:List F2.Fd) (cs:List (Str×List Spt)) (ms:List 0x8) (Hb:Hp) (f:Fm) (s:Spt),vs=[↥w.a,↥f.a]/\ce K t Hb H w wt fs wl fns cs ms/\f∈fs/\jg cs f s/\∀v,gm K Hb s v->Q v H
abbrev Az (K:L7) (t:Adr):L2.Sp:=λvs H Q _=>∃(w:Wr) (wt:L6) (fs:List Fm) (wl:List V) (fns:List F2.Fd) (cs:List (Str×List Spt)) (ms:List 0x8) (Hb:Hp) (f:Fm) (m:Mk),vs=[↥w.a,↥f.a]/\ce K t Hb H w wt fs wl fns cs ms/\f∈fs/\eo ms f m/\∀v,gh K Hb m v->Q v H
abbrev Fq (K:L7) (t:Adr):L2.Sp:=λvs H Q _=>∃(w:Wr) (wt:L6) (fs:List Fm) (wl:List V) (fns:List F2.Fd) (cs:List (Str×List Spt)) (ms:List 0x8) (Hb:Hp) (f:Fm) (m:Mk),vs=[↥w.a,↥f.a]/\ce K t Hb H w wt fs wl fns cs ms/\f∈fs/\eo ms f m/\∀c,fh K Hb c m.ch->Q ↥c H
abbrev fZ (ms:List 0x8) (fs:List Fm) (wl:List V) (z:Int):Prop:=z<0\/fs=[]\/∃(i:Nat) (f:Fm) (m:Mk),z=(i:Int)/\Ow fs wl i f/\eo ms f m/\f.first<=i/\m.ch.length<=i - f.first/\m.ch.length<=100
structure LvF (ms:List 0x8) (fs:List Fm) (wl:List V) (fns:List F2.Fd) (i:Nat) (f:Fm) (m:Mk) (p:Str×Nat) (pl:List (Option Rk2.Tr)) (F:F2.Fd):Prop where
 lv:Lv ms fs wl i f m p pl
 c:m.ch.length<=100
 fn:F∈fns
 nm:p.1=F.name
 n1:(F2.nms F).length<=100
 pn:pl.length=(F2.nms F).length
 ok:∀u,⇑u∈pl->dO u
 dv:Rk2.DV f.kvs
 nd:(F2.nms F).Nodup
 k1:f.kvs.length<=10000
abbrev tlV (kvs:List (aF×V)):Hl Rk2.Tr->V
 | none=>.non
 | some u=>.int (Rk2.wv (Rk2.fOf kvs) u)
abbrev dh (first:Nat) (m:Mk) (nm:List (List Str)) (k:Nat):List (Nat×Str×Hl Rk2.Tr):=((nm.getD k []).zip (m.vs.getD k [])).map λx=>(first+k,x.1,x.2)
abbrev dX (first:Nat) (m:Mk) (nm:List (List Str)) (n:Nat):List (Nat×Str×Hl Rk2.Tr):=(List.range n).flatMap (dh first m nm)
abbrev eK (K:L7) (H:Hp) (x:Nat×Str×Hl Rk2.Tr) (u:V):Prop:=∃q v,u=↥q/\aG K H q [.int x.1,.str x.2.1,v]/\bd H x.2.2 v
def eK.mono {K:L7} {H H':Hp} {x:Nat×Str×Hl Rk2.Tr} {u:V} (e:aB H H') (h:eK K H x u):eK K H' x u:=by let#[q,v,h1,h2,h3]:=h; show#[q,v,h1,e<*h2,bd.mono e h3]
abbrev C6 (K:L7) (t:Adr):L2.Sp:=λvs H Q _=>∃(w:Wr) (wt:L6) (fs:List Fm) (wl:List V) (fns:List F2.Fd) (cs:List (Str×List Spt)) (ms:List 0x8) (Hb:Hp) (z:Int),vs=[↥w.a,.int z]/\ce K t Hb H w wt fs wl fns cs ms/\((∃(i:Nat) (f:Fm) (m:Mk) (p:Str×Nat) (pl:List (Hl Rk2.Tr)),z=(i:Int)/\Lv ms fs wl i f m p pl/\m.ch.length<=100/\∀v,dC K Hb p v->Q v H)\/(fZ ms fs wl z/\Q .non H))
abbrev A6 (K:L7) (t:Adr):L2.Sp:=λvs H Q _=>∃(w:Wr) (wt:L6) (fs:List Fm) (wl:List V) (fns:List F2.Fd) (cs:List (Str×List Spt)) (ms:List 0x8) (Hb:Hp) (i:Nat) (f:Fm) (m:Mk) (p:Str×Nat) (pl:List (Hl Rk2.Tr)) (F:F2.Fd),vs=[↥w.a,.int i]/\ce K t Hb H w wt fs wl fns cs ms/\Lv ms fs wl i f m p pl/\m.ch.length<=100/\F∈fns/\p.1=F.name/\(F2.nms F).length<=1000/\∀nl H',aB H H'->Hb nl=⇑(.lst ((F2.nms F).map V.str))->H' nl=⇑(.lst ((F2.nms F).map V.str))->Q ↥nl H'
abbrev EO (K:L7) (t:Adr):L2.Sp:=λvs H Q E=>∃(w:Wr) (wt:L6) (fs:List Fm) (wl:List V) (fns:List F2.Fd) (cs:List (Str×List Spt)) (ms:List 0x8) (Hb:Hp) (z:Int),vs=[↥w.a,.int z]/\ce K t Hb H w wt fs wl fns cs ms/\((∃(i:Nat) (f:Fm) (m:Mk) (p:Str×Nat) (pl:List (Hl Rk2.Tr)),z=(i:Int)/\Lv ms fs wl i f m p pl/\m.ch.length<=100/\Q .non H)\/(fZ ms fs wl z/\∀H',aB H H'->E ↥t.x_nN none H'))
abbrev zl (K:L7) (t:Adr):L2.Sp:=λvs H Q E=>∃(w:Wr) (wt:L6) (fs:List Fm) (wl:List V) (fns:List F2.Fd) (cs:List (Str×List Spt)) (ms:List 0x8) (Hb:Hp) (z:Int) (n:Str),vs=[↥w.a,.int z,.str n]/\ce K t Hb H w wt fs wl fns cs ms/\((∃(i:Nat) (f:Fm) (m:Mk) (p:Str×Nat) (pl:List (Hl Rk2.Tr)) (F:F2.Fd),z=(i:Int)/\LvF ms fs wl fns i f m p pl F/\(n∈F2.nms F->∀H',aB H H'->Q .non H')/\(n ∉ F2.nms F->∀H',aB H H'->E ↥t.x_nN none H'))\/(fZ ms fs wl z/\∀H',aB H H'->E ↥t.x_nN none H'))
abbrev zm (K:L7) (t:Adr):L2.Sp:=λvs H Q E=>∃(w:Wr) (wt:L6) (fs:List Fm) (wl:List V) (fns:List F2.Fd) (cs:List (Str×List Spt)) (ms:List 0x8) (Hb:Hp) (z:Int) (n:Str),vs=[↥w.a,.int z,.str n]/\ce K t Hb H w wt fs wl fns cs ms/\((∃(i:Nat) (f:Fm) (m:Mk) (p:Str×Nat) (pl:List (Hl Rk2.Tr)) (F:F2.Fd),z=(i:Int)/\LvF ms fs wl fns i f m p pl F/\(n∈F2.nms F->∀o,pl[(F2.nms F).idxOf n]?=⇑o->∀v H',aB H H'->bd Hb o v->Q v H')/\(n ∉ F2.nms F->∀H',aB H H'->E ↥t.x_nN none H'))\/(fZ ms fs wl z/\∀H',aB H H'->E ↥t.x_nN none H'))
abbrev Fo (K:L7) (t:Adr):L2.Sp:=λvs H Q _=>∃(w:Wr) (wt:L6) (fs:List Fm) (wl:List V) (fns:List F2.Fd) (cs:List (Str×List Spt)) (ms:List 0x8) (Hb:Hp) (i:Nat) (f:Fm) (m:Mk) (p:Str×Nat) (pl:List (Hl Rk2.Tr)) (F:F2.Fd) (n:Str) (o:Hl Rk2.Tr),vs=[↥w.a,.int i,.str n]/\ce K t Hb H w wt fs wl fns cs ms/\LvF ms fs wl fns i f m p pl F/\n∈F2.nms F/\pl[(F2.nms F).idxOf n]?=⇑o/\∀H',aB H H'->Q (tlV f.kvs o) H'
abbrev Eu (K:L7) (t:Adr):L2.Sp:=λvs H Q E=>∃(w:Wr) (wt:L6) (fs:List Fm) (wl:List V) (fns:List F2.Fd) (cs:List (Str×List Spt)) (ms:List 0x8) (Hb:Hp) (z:Int) (n:Str),vs=[↥w.a,.int z,.str n]/\ce K t Hb H w wt fs wl fns cs ms/\((∃(i:Nat) (f:Fm) (m:Mk) (p:Str×Nat) (pl:List (Hl Rk2.Tr)) (F:F2.Fd),z=(i:Int)/\LvF ms fs wl fns i f m p pl F/\(n∈F2.nms F->∀o,pl[(F2.nms F).idxOf n]?=⇑o->∀H',aB H H'->Q (tlV f.kvs o) H')/\(n ∉ F2.nms F->∀H',aB H H'->E ↥t.x_nN none H'))\/(fZ ms fs wl z/\∀H',aB H H'->E ↥t.x_nN none H'))
abbrev BG (K:L7) (t:Adr):L2.Sp:=λvs H Q E=>∃(w:Wr) (wt:L6) (fs:List Fm) (wl:List V) (fns:List F2.Fd) (cs:List (Str×List Spt)) (ms:List 0x8) (Hb:Hp) (z:Int),vs=[↥w.a,.int z]/\ce K t Hb H w wt fs wl fns cs ms/\((∃(i:Nat) (f:Fm) (m:Mk) (p:Str×Nat) (pl:List (Hl Rk2.Tr)) (nm:List (List Str)),z=(i:Int)/\Lv ms fs wl i f m p pl/\m.ch.length<=100/\m.vs.length=m.ch.length/\nm.length=m.ch.length/\(∀(k:Nat) p1 pl1,m.ch[k]?=⇑p1->m.vs[k]?=⇑pl1->∃F,LvF ms fs wl fns (f.first+k) f m p1 pl1 F/\nm[k]?=⇑(F2.nms F))/\∀l us H',aB H H'->H l=none->H' l=⇑(.lst us)->Rk2.Ps (eK K (ers l H')) us (dX f.first m nm m.ch.length)->Q ↥l H')\/(fZ ms fs wl z/\∀H',aB H H'->E ↥t.x_nN none H'))
abbrev GW (K:L7) (t:Adr):L2.Sp:=λvs H Q E=>∃(w:Wr) (wt:L6) (fs:List Fm) (wl:List V) (fns:List F2.Fd) (cs:List (Str×List Spt)) (ms:List 0x8) (Hb:Hp) (z b v:Int),vs=[↥w.a,.int z,.int b,.int v]/\ce K t Hb H w wt fs wl fns cs ms/\((∃(i:Nat) (f:Fm) (m:Mk) (p:Str×Nat) (pl:List (Hl Rk2.Tr)),z=(i:Int)/\Lv ms fs wl i f m p pl/\m.ch.length<=100/\f.kvs.length<100000/\∀H',aB (ers f.bx H) H'->H' f.bx=⇑(.dK (iG f.kvs ⇑b v))->Q (.bl true) H')\/(fZ ms fs wl z/\∀H',aB H H'->E ↥t.x_nN none H'))
abbrev Ee (K:L7) (t:Adr):L2.Sp:=λvs H Q _=>∃(w:Wr) (wt:L6) (fs:List Fm) (wl:List V) (fns:List F2.Fd) (cs:List (Str×List Spt)) (ms:List 0x8) (Hb:Hp) (mf:List Mk),vs=[↥w.a]/\ce K t Hb H w wt fs wl fns cs ms/\mf.length=fs.length/\(∀(j:Nat) f m,fs[j]?=⇑f->mf[j]?=⇑m->eo ms f m/\m.ch.length<=100)/\∀l us H',aB H H'->H l=none->H' l=⇑(.lst us)->Rk2.Ps (dC K Hb) us (mf.flatMap (·.ch))->Q ↥l H'
abbrev Fe (K:L7) (t:Adr):L2.Sp:=λvs H Q _=>∃(w:Wr) (wt:L6) (fs:List Fm) (wl:List V) (fns:List F2.Fd) (cs:List (Str×List Spt)) (ms:List 0x8) (Hb:Hp) (oc:V) (sent:List V) (cn:Wk.Cn) (g:Str) (ar:L6) (ys:List V),vs=[↥w.a,.str g,↥ar]/\CA t Hb H w wt fs oc sent cn wl/\wl.length<=100/\fs.length<=100/\aE K H ar ys/\ys.length<=1000 /\
 ∀x dx bx Hb' H',aB Hb Hb'->CA t Hb' H' w wt (fs++[#[x,dx,bx,g,(0),bX ys,wl.length]]) oc sent cn wl->Q .non H'
structure FOk (f:Fm) (ss:List (Int×Rk2.Tr)):Prop where
 dv:Rk2.DV f.kvs
 len:f.kvs.length<=10000
 ok:∀u∈ss,dO u.2
 n:ss.length<=1000
abbrev DP (K:L7) (t:Adr):L2.Sp:=λvs H Q _=>∃(w:Wr) (wt:L6) (fns:List F2.Fd) (cs:List (Str×List Spt)) (ms:List 0x8) (Hb:Hp) (oc:V) (sent:List V) (cn:Wk.Cn) (wl:List V) (fs0:List Fm) (f:Fm) (z:Int),vs=[↥w.a,.int z]/\CA t Hb H w wt (fs0++[f]) oc sent cn wl/\Dt K t Hb w fns cs ms/\wl.length<=100/\fs0.length<100 /\
 ((fs0=[]/\∀Hb' H',aB Hb Hb'->CA t Hb' H' w wt [] (.int z) sent cn wl->Q .non H') \/
 ∃fs1 f1 ss b n,fs0=fs1++[f1]/\jg cs f1 #[ss,.wait b n]/\FOk f1 ss/\∀wt' Hb' H',aB Hb Hb'->CA t Hb' H' w wt' (fs1++[{ f1 with kvs:=iG (setK f1.kvs ss) b z,spot:=n }]) oc sent cn (wl.take f1.first)->Q .non H')
abbrev Ev (K:L7) (t:Adr):L2.Sp:=λvs H Q _=>∃(w:Wr) (wt:L6) (fns:List F2.Fd) (cs:List (Str×List Spt)) (ms:List 0x8) (Hb:Hp) (oc:V) (sent:List V) (cn:Wk.Cn) (wl:List V) (fs0:List Fm) (f:Fm) (a:Ac) (v:V) (l:L6) (zs:List Int),vs=[↥w.a,↥f.a,v,↥l]/\CA t Hb H w wt (fs0++[f]) oc sent cn wl/\Dt K t Hb w fns cs ms/\wl.length<=100/\fs0.length<100/\iC K Hb a v/\Hb l=⇑(.lst (zs.map V.int))/\zs.length=(fU a).length/\zs.length<=1000 /\
 ((∃g ts n m,a=.call g ts n/\eo ms { f with spot:=n } m/\wl.length+m.ch.length<=100/\∀x dx bx Hb' H',aB Hb Hb'->CA t Hb' H' w wt (fs0++[{ f with spot:=n }]++[#[x,dx,bx,g,(0),bX (zs.map V.int),wl.length+m.ch.length]]) oc sent cn (wl++List.replicate m.ch.length ↥f.a)->Q .non H') \/
 (∃tr,a=.back tr/\((fs0=[]/\∀Hb' H',aB Hb Hb'->CA t Hb' H' w wt [] (.int (zs.headD 0)) sent cn wl->Q .non H') \/
 ∃fs1 f1 ss b n,fs0=fs1++[f1]/\jg cs f1 #[ss,.wait b n]/\FOk f1 ss/\∀wt' Hb' H',aB Hb Hb'->CA t Hb' H' w wt' (fs1++[{ f1 with kvs:=iG (setK f1.kvs ss) b (zs.headD 0),spot:=n }]) oc sent cn (wl.take f1.first)->Q .non H')))
abbrev w9 (K:L7) (t:Adr):L2.Sp:=λvs H Q _=>∃(w:Wr) (wt:L6) (fns:List F2.Fd) (cs:List (Str×List Spt)) (ms:List 0x8) (Hb:Hp) (oc:V) (sent:List V) (cn:Wk.Cn) (wl:List V) (fs0:List Fm) (f:Fm) (a:Ac) (ss:List (Int×Rk2.Tr)),vs=[↥w.a]/\CA t Hb H w wt (fs0++[f]) oc sent cn wl/\Dt K t Hb w fns cs ms/\wl.length<=100/\fs0.length<100/\jg cs f #[ss,a]/\FOk f ss/\(∀u∈fU a,dO u)/\(fU a).length<=100 /\
 ((∃g ts n m,a=.call g ts n/\eo ms { f with spot:=n } m/\wl.length+m.ch.length<=100/\∀x dx bx Hb' H',aB Hb Hb'->CA t Hb' H' w wt (fs0++[{ f with kvs:=setK f.kvs ss,spot:=n }]++[#[x,dx,bx,g,(0),bX (((fU a).map (Rk2.wv (Rk2.fOf f.kvs))).map V.int),wl.length+m.ch.length]]) oc sent cn (wl++List.replicate m.ch.length ↥f.a)->Q .non H') \/
 (∃tr,a=.back tr/\((fs0=[]/\∀Hb' H',aB Hb Hb'->CA t Hb' H' w wt [] (.int (Rk2.wv (Rk2.fOf f.kvs) tr)) sent cn wl->Q .non H') \/
 ∃fs1 f1 ss b n,fs0=fs1++[f1]/\jg cs f1 #[ss,.wait b n]/\FOk f1 ss/\∀wt' Hb' H',aB Hb Hb'->CA t Hb' H' w wt' (fs1++[{ f1 with kvs:=iG (setK f1.kvs ss) b (Rk2.wv (Rk2.fOf f.kvs) tr),spot:=n }]) oc sent cn (wl.take f1.first)->Q .non H')))
abbrev zb (K:L7) (t:Adr):L2.Sp:=λvs H Q E=>∃(x:L6),vs=[↥x]/\(w9 K t [↥x] H Q E\/∃(Hb:Hp) (w:Wr) (wt:L6) (oc:V) (sent:List V) (cn:Wk.Cn) (wl:List V),w.a=x/\CA t Hb H w wt [] oc sent cn wl/\∀H',aB H H'->E ↥t.cg none H')
def dR (f:Str) (v:V) (l:List (Str×V)) (n:Nat) (h:l.length<=n):(bO f v l).length<=n+1:=Hu (mQ f v l) ∅
abbrev w0 (x dx st sd ct fl:L6):Wr:=#[x,dx,st,sd,ct,fl,x,x]
abbrev Cb (K:L7) (t:Adr):L2.Sp:=λvs H Q _=>∃(x dx p:L6) (fns:List F2.Fd),vs=[↥x,↥p]/\H x=⇑(.ins t.bF dx [])/\aE K (ers x H) p (fns.map λf=>V.ref f.fa)/\fns≠[]/\fns.length<=12/\(∀f∈fns,F2.FnAt K (ers x H) f)/\(fns.map (·.name)).Nodup /\
 ∀fl st sd ct Hb H',aB (ers x H) Hb->Own Hb H' [(x,.ins t.bF dx (wF (w0 x dx st sd ct fl) .non 0)),(st,.lst []),(sd,.lst []),(ct,.dT [])]->F2.FlowsAt K t.bj Hb fl fns->Q .non H'
abbrev Fw (K:L7) (t:Adr):L2.Sp:=λvs H Q _=>∃(x dx p ar:L6) (cv tv:V) (fns:List F2.Fd) (F:F2.Fd) (cs:List (Str×List Spt)) (ms:List 0x8) (ys:List V),vs=[↥x,↥p,cv,tv,↥ar]/\H x=⇑(.ins t.bF dx [])/\aE K (ers x H) p (fns.map λf=>V.ref f.fa)/\fns≠[]/\fns.length<=12/\(∀f∈fns,F2.FnAt K (ers x H) f)/\(fns.map (·.name)).Nodup/\fns[fns.length - 1]?=⇑F /\
 im K (ers x H) cv cs/\(cs.map (·.1)).Nodup/\cs.length<=100/\(∀c∈cs,c.2.length<=1000/\∀s∈c.2,s.sets.length<=1000)/\ip K (ers x H) tv ms/\(ms.map (·.1)).Nodup/\ms.length<=100/\(∀c∈ms,c.2.length<=1000/\∀m∈c.2,m.vs.length<=1000/\∀p∈m.vs,p.length<=1000)/\aE K (ers x H) ar ys/\ys.length<=1000 /\
 ∀w wt fa fdx fbx Hb H',w.a=x->aB (ers x H) Hb->CA t Hb H' w wt [#[fa,fdx,fbx,F.name,(0),bX ys,(0)]] .non [] #[[],(0)] []->Dt K t Hb w fns cs ms->Q .non H'
abbrev DE (K:L7):L2.Sp:=λvs H Q _=>∃(s:Str) (a b:Int),vs=[.str s,.int a,.int b]/\0<=a/\0<=b/\a<K21.wide/\b<K21.wide/\Q (.int (K21.valOf s a b)) H
abbrev Ge (K:L7):L2.Sp:=λvs H Q _=>∃(a:L6) (ns:List Int) (k:Int),vs=[↥a,.int k]/\aE K H a (ns.map V.int)/\ns.length<=63/\0<=k/\∀z,Q (.int z) H
abbrev C1 (K:L7):L2.Sp:=λvs H Q _=>∃(z:Int),vs=[.int z]/\Q (.bl true) H
abbrev Gu (K:L7):L2.Sp:=λvs H Q _=>∃(c:Int),vs=[.int c]/\∀z,0<=z->z<K21.wide->Q (.int z) H
abbrev ny (K:L7) (n:Nat):L2.Sp:=λvs H Q _=>∃(tr:Rk2.Tr) (v:V) (d:L6) (kvs:List (aF×V)),vs=[v,↥d]/\Rk2.dp tr<n/\Rk2.RAt H tr v/\H d=⇑(.dK kvs)/\Rk2.DV kvs/\Rk2.okl (Rk2.lvs tr)/\Q (.int (Rk2.wv (Rk2.fOf kvs) tr)) H
abbrev Ef (K:L7):L2.Sp:=λvs H Q _=>∃(c:Int) (mn:Nat),vs=[.int c,.int mn]/\mn<=20/\∀ws:List Str,ws.length=mn->ws.Nodup->(∀w∈ws,K12.Nm w)->(∀w∈ws,w≠"")->K12.Gives H Q (ws.map V.str)
abbrev DH (K:L7):L2.Sp:=λvs H Q _=>∃(l1 l2:L6) (us ws:List V) (ch:List (Str×Nat)),vs=[↥l1,↥l2]/\aE K H l1 us/\aE K H l2 ws/\Rk2.Ps (dC K H) us ch/\Rk2.Ps (dC K H) ws ch/\(∀p∈ch,PyData.strOk p.1=true)/\Q (.bl true) H
abbrev GI (K:L7):L2.Sp:=λvs H Q _=>∃(c:Int) (bl:L6) (bs:List Int),vs=[.int c,↥bl]/\aE K H bl (bs.map V.int)/\BxL bs/\∀tr v H',aB H H'->Rk2.RAt H' tr v->TOk' 7 tr->Q v H'
abbrev nT (K:L7) (n:Nat):L2.Sp:=λvs H Q _=>∃(tr:Rk2.Tr) (x y:V),vs=[x,y]/\Rk2.dp tr<n/\Rk2.RAt H tr x/\Rk2.RAt H tr y/\Q (.bl true) H
abbrev Ao (K:L7):L2.Sp:=λvs H Q _=>∃(own:Str) (nl:L6) (ws:List Str) (m:Nat),vs=[.str own,↥nl,.int m]/\aE K H nl (ws.map V.str)/\ws≠[]/\ws.length<=20/\ws.Nodup/\(∀w∈ws,K12.Nm w)/\m<=ws.length/\∀F H',aB H H'->F2.FnAt K H' F->F.name=own->F2.nms F=ws->F.ps.length=m->F.ps.length+F.rs.length=ws.length+2->Q ↥F.fa H'
abbrev Fj (K:L7) (t:Adr):L2.Sp:=λvs H Q _=>∃(w:Wr) (wt:L6) (fs:List Fm) (wl:List V) (fns:List F2.Fd) (cs:List (Str×List Spt)) (ms:List 0x8) (Hb:Hp) (y:Nat) (z:Int) (n:Str),vs=[↥w.a,.int y,.int z,.str n]/\ce K t Hb H w wt fs wl fns cs ms/\((fZ ms fs wl z/\∀H',aB H H'->Q (.bl true) H')\/∃(i:Nat) (f:Fm) (m:Mk) (p:Str×Nat) (pl:List (Hl Rk2.Tr)) (F:F2.Fd),z=(i:Int)/\y<2/\LvF ms fs wl fns i f m p pl F/\∀H',aB H H'->Q (.bl (decide (n ∉ F2.nms F))) H')
abbrev CB (K:L7):L2.Sp:=λvs H Q _=>∃(l1 l2:L6) (us ws:List V) (xs:List (Nat×Str×Hl Rk2.Tr)),vs=[↥l1,↥l2]/\aE K H l1 us/\aE K H l2 ws/\Rk2.Ps (eK K H) us xs/\Rk2.Ps (eK K H) ws xs/\(∀x∈xs,PyData.strOk x.2.1=true/\∀u,x.2.2=⇑u->dO u)/\xs.length<=1000/\∀H',aB H H'->Q (.bl true) H'
abbrev Gg (K:L7) (t:Adr):L2.Sp:=λvs H Q _=>∃(w:Wr) (wt:L6) (fs:List Fm) (wl:List V) (fns:List F2.Fd) (cs:List (Str×List Spt)) (ms:List 0x8) (Hb:Hp) (i:Nat) (f:Fm) (m:Mk) (p:Str×Nat) (pl:List (Hl Rk2.Tr)) (F:F2.Fd) (n:Str) (o:Hl Rk2.Tr) (v:V) (d:L6),vs=[↥w.a,.int i,.str n,v,↥d]/\ce K t Hb H w wt fs wl fns cs ms/\LvF ms fs wl fns i f m p pl F/\n∈F2.nms F/\pl[(F2.nms F).idxOf n]?=⇑o/\bd H o v/\H d=⇑(.dK f.kvs)/\∀H',aB H H'->Q (.bl true) H'
abbrev DS (K:L7):L2.Sp:=λvs H Q _=>∃(c:Int) (pl bl:L6) (fns:List F2.Fd) (fi:Nat) (bs:List Int),vs=[.int c,↥pl,.int fi,↥bl]/\aE K H pl (fns.map λf=>V.ref f.fa)/\fns.length=3/\(∀F∈fns,F2.FnAt K H F/\FnOk F)/\fi<3/\aE K H bl (bs.map V.int)/\BxL bs/\∀m v H',aB H H'->oz K H H' m v->MkOk fns m->(∀F,fns[fi]?=⇑F->∃r,m.ch[0]?=⇑(F.name,r))->Q v H'
noncomputable abbrev Lf:=Fm×Mk×L6
abbrev dB (L:List Lf) (i:Nat):Nat:=((L.take i).flatMap (·.2.1.ch)).length
structure FmOk (fns:List F2.Fd) (ms:List 0x8) (fs:List Fm) (wl:List V) (b:Nat) (x:Lf):Prop where
 ma:eo ms x.1 x.2.1
 ok:MkOk fns x.2.1
 dv:Rk2.DV x.1.kvs
 k1:x.1.kvs.length<=10000
 fi:x.1.first=b
 ow:∀k,k<x.2.1.ch.length->Ow fs wl (b+k) x.1
structure StA (fns:List F2.Fd) (ms:List 0x8) (wl:List V) (L:List Lf):Prop where
 fn:∀F∈fns,FnOk F
 at_:∀(i:Nat) x,L[i]?=⇑x->FmOk fns ms (L.map (·.1)) wl (dB L i) x
 out:∀i:Nat,dB L L.length<=i->fZ ms (L.map (·.1)) wl i
 hl:L.length<=2
abbrev OwA (K:L7) (H:Hp) (x:Lf) (v:V):Prop:=∃q mv,v=↥q/\aG K H q [mv,↥x.2.2]/\dE K H x.2.1 mv/\H x.2.2=⇑(.dK x.1.kvs)
structure NmD (K:W.Frag) (H:Hp) (nd al:Addr) (kn:List (aF×V)) (fns:List F2.Fd) (ws:List Str):Prop where
 d:H nd=⇑(.dK kn)
 fn:∀F∈fns,∃nl,aq kn (Sum.inr F.name:aF)=⇑↥nl/\aE K H nl ((F2.nms F).map V.str)
 no:aq kn (Sum.inr "":aF)=⇑↥al
 al:aE K H al (ws.map V.str)
 ne:ws≠[]
 len:ws.length<=100
def NmD.mono {K:L7} {H H':Hp} {nd al:L6} {kn:List (aF×V)} {ws:List Str} (e:aB H H') (h:NmD K H nd al kn fns ws):NmD K H' nd al kn fns ws:=#[e _ _ h.d,λF hF=>by let#[nl,a,b]:=h.fn F hF; show#[nl,a,e.seq b],h.no,e.seq h.al,h.ne,h.len]
def pi {ms:List 0x8} {L:List Lf} {i k:Nat} {x:Lf} {p:Str×Nat} {pl:List (Hl Rk2.Tr)} (S:StA fns ms wl L) (hx:L[i]?=⇑x) (hp:x.2.1.ch[k]?=⇑p) (hv:x.2.1.vs[k]?=⇑pl):∃F,LvF ms (L.map (·.1)) wl fns (x.1.first+k) x.1 x.2.1 p pl F:=by
 have M:=S.at_ i x hx;let#[F,h1,h2,h3,h4]:=M.ok.p.at_ k p pl hp hv;have O:=S.fn F h1;have hk:=(HV.mp hp).1;have e:x.1.first+k - x.1.first=k:=by lia
 show#[F,#[by rw[M.fi]; exact M.ow k hk,M.ma,Jq _ _,by rw[e]; exact hp,by rw[e]; exact hv],Hu M.ok.l3 #[],h1,h2,Hu O.n1 #[],h3,h4,M.dv,O.nd,M.k1]
def Bf {ms:List 0x8} {L:List Lf} {i:Nat} {x:Lf} (S:StA fns ms wl L) (hx:L[i]?=⇑x):∃nm:List (List Str),nm.length=x.2.1.ch.length/\∀(k:Nat) p1 pl1,x.2.1.ch[k]?=⇑p1->x.2.1.vs[k]?=⇑pl1->∃F,LvF ms (L.map (·.1)) wl fns (x.1.first+k) x.1 x.2.1 p1 pl1 F/\nm[k]?=⇑(F2.nms F):=by
 have M:=S.at_ i x hx;have lv:=M.ok.p.len;let#[nm,h1,h2]:=vd (P:=λk s=>∃p1 pl1 F,x.2.1.ch[k]?=⇑p1/\x.2.1.vs[k]?=⇑pl1/\LvF ms (L.map (·.1)) wl fns (x.1.first+k) x.1 x.2.1 p1 pl1 F/\s=F2.nms F) x.2.1.ch.length λk hk=>by have e1:=HU (l:=x.2.1.ch) (i:=k) hk;have e2:=HU (l:=x.2.1.vs) (i:=k) ∅;let#[F,hF]:=pi S hx e1 e2;show#[8,F,e1,e2,hF,rfl]
 show#[nm,h1,λk p1 pl1 e1 e2=>?_];let#[s,a,p,pl,F,b1,b2,b3,rfl]:=h2 k (HV.mp e1).1;rw[e1] at b1;rw[e2] at b2;cases b1;cases b2;show#[F,b3,a]
def Gv (b:Nat) (m:Mk) (nm:List (List Str)) (n:Nat):dX b m nm (n+1)=dX b m nm n++dh b m nm n:=by unfold dX; rw[Ju,IZ]; simp
def vW {b:Nat} {m:Mk} {nm:List (List Str)} {n:Nat} {x:Nat×Str×Hl Rk2.Tr} (h:x∈dX b m nm n):∃k,k<n/\x∈dh b m nm k:=by let#[k,h1,h2]:=Km.mp h;show#[k,KR.mp h1,h2]
def FO {L:List Lf} {i:Nat} {x:Lf} (h:L[i]?=⇑x):dB L (i+1)=dB L i+x.2.1.ch.length:=by unfold dB;rw[IM,h,IZ,HZ];simp
def w6 {ms:List 0x8} {fs:List Fm} {f:Fm} {m:Mk} {nm:List (List Str)} {k:Nat} {x:Nat×Str×Hl Rk2.Tr} (hv:m.vs.length=m.ch.length) (hk:∀(k:Nat) p1 pl1,m.ch[k]?=⇑p1->m.vs[k]?=⇑pl1->∃F,LvF ms fs wl fns (f.first+k) f m p1 pl1 F/\nm[k]?=⇑(F2.nms F)) (hc:k<m.ch.length) (h:x∈dh f.first m nm k):∃p pl F,LvF ms fs wl fns x.1 f m p pl F/\x.2.1∈F2.nms F/\pl[(F2.nms F).idxOf x.2.1]?=⇑x.2.2:=by have e1:=HU (l:=m.ch) (i:=k) hc;have e2:=HU (l:=m.vs) (i:=k) ∅;let#[F,LF,hn]:=hk k _ _ e1 e2;unfold dh at h;rw[jK hn,jK e2] at h;let#[y,hy,rfl]:=IJ.mp h;let#[j,hj]:=JU.mp hy;rw[Jt] at hj;show#[4,F,LF,IA hj.1,?_];show m.vs[k][(F2.nms F).idxOf y.1]?=⇑y.2;rw[AV LF.nd hj.1];exact hj.2
abbrev En (K:L7) (t:Adr):L2.Sp:=λvs H Q _=>∃(w:Wr) (wt:L6) (wl:List V) (fns:List F2.Fd) (cs:List (Str×List Spt)) (ms:List 0x8) (Hb:Hp) (L:List Lf) (nd al ol:L6) (kn:List (aF×V)) (ws:List Str) (us:List V) (hi:Nat),vs=[↥w.a,↥ol,↥nd,.int hi]/\ce K t Hb H w wt (L.map (·.1)) wl fns cs ms/\StA fns ms wl L/\NmD K H nd al kn fns ws/\aE K H ol us/\Rk2.Ps (OwA K H) us L/\∀H',aB H H'->Q (.bl true) H'
structure Wm (t:Adr) (Hd Hb H:Hp) (w:Wr) (wt:Addr) (L:List Lf) (oc:V) (wl:List V):Prop where
 c:CA t Hb H w wt (L.map (·.1)) oc [] #[[],(0)] wl
 s:aB Hd Hb
 at_:∀x∈L,Hb x.2.2=⇑(.dK x.1.kvs)
 no:∀x∈L,Hd x.2.2=none
 nd:(L.map (·.2.2)).Nodup
section
variable {Hd Hb H H' H2:Hp} {w:Wr} {wt:L6} {L A B:List Lf} {x:Lf} {oc:V} {wl:List V}
def Wm.b (h:Wm t Hd Hb H w wt L oc wl):aB Hd H:=h.s\h.c.b
def Wm.keep (h:Wm t Hd Hb H w wt L oc wl) (s:aB H H'):Wm t Hd Hb H' w wt L oc wl:=#[Own.keep h.c s,h.s,h.at_,h.no,h.nd]
def Wm.grow (h:Wm t Hd Hb H w wt L oc wl) (s:aB H H'):Wm t (Wk.gr Hd H H') (Wk.gr Hb H H') H' w wt L oc wl :=
 #[Own.grow h.c s,λb o q=>by
   unfold Wk.gr at q ⊢;cases e:H b with
   | none=>rw[e] at q; exact q
   | some u=>rw[e] at q; exact h.s _ _ q,λx hx=>Wk.gr_same h.c.b _ _ (h.at_ x hx),λx hx=>Wk.gr_own (h.c.b _ _ (h.at_ x hx)) (h.no x hx),h.nd]
def Wm.fill {k:List (aF×V)} (h:Wm t Hd Hb H w wt (A++x::B) oc wl) (s1:aB (ers x.2.2 H) H') (e1:H' x.2.2=⇑(.dK k)) (s2:aB (ers x.1.bx H') H2) (e2:H2 x.1.bx=⇑(.dK k)):Wm t Hd (upd Hb x.2.2 (.dK k)) H2 w wt (A++({ x.1 with kvs:=k },x.2)::B) oc wl:=by
 have hx:=h.at_ x (Hz _ Hj);have nx:=h.no x (Hz _ Hj);have c:=h.c;unfold CA at c;rw[Hq,IF] at c;have ap:∀y,y∈A\/y∈B->y.2.2≠x.2.2:=λy hy z=>by
   have nd:=h.nd;rw[Hq,IF] at nd;have nd:=K2.mp nd;rcases hy with hy|hy
   . exact nd.2.2 _ (IJ.mpr #[y,hy,rfl]) _ Hj z
   . exact(JP.mp nd.2.1).1 (z ▸ IJ.mpr #[y,hy,rfl])
 have mm:∀y,y∈A++({ x.1 with kvs:=k },x.2)::B->y=({ x.1 with kvs:=k },x.2)\/(y∈A++x::B/\y.2.2≠x.2.2):=λy hy=>by
   rcases IH.mp hy with hy|hy
   . exact .inr #[Ik _ hy,ap y (.inl hy)]
   . rcases Hh.mp hy with rfl|hy
     . exact .inl rfl
     . exact .inr #[Hz _ (Hv _ hy),ap y (.inr hy)]
 show#[?_,h.s.upd nx,λy hy=>?_,λy hy=>?_,?_]
 . have:=bB.boxesAt (Own.putK c hx s1 e1) s2 e2;unfold CA;rw[Hq,IF];exact this
 . rcases mm y hy with rfl|⟨h1,h2⟩
   . exact aH
   . rw[aM h2];exact h.at_ y h1
 . rcases mm y hy with rfl|⟨h1,h2⟩
   . exact nx
   . exact h.no y h1
 . have:=h.nd;rw[Hq,IF] at this ⊢;exact this
end
abbrev gc (K:L7) (H:Hp) (x:Lf) (v:V):Prop:=∃q mv,v=↥q/\aG K H q [mv,↥x.2.2]/\dE K H x.2.1 mv
def gc.A {K:L7} {t:Adr} {Hd Hb H:Hp} {w:Wr} {wt:L6} {L:List Lf} {oc:V} {wl:List V} (W:Wm t Hd Hb H w wt L oc wl):∀{us:List V} {M:List Lf},(∀x∈M,x∈L)->Rk2.Ps (gc K Hd) us M->Rk2.Ps (OwA K H) us M
 | [],[],_,_=>trivial
 | u::us,x::M,hm,h=>by obtain⟨⟨q,mv,h1,h2,h3⟩,h4⟩:=h;show#[#[q,mv,h1,W.b.tup h2,h3*>W.b,W.c.b _ _ (W.at_ x (hm x Hj))],gc.A W (λy hy=>hm y (Hv _ hy)) h4]
 | [],_::_,_,h=>h.elim
 | _::_,[],_,h=>h.elim
def BE (L:List Lf):((L.map λx:Lf=>((x.2.1.ch.length:Nat):Int)).sum)=(((L.flatMap (·.2.1.ch)).length:Nat):Int):=by
 induction L with
 | nil=>rfl
 | cons x L ih=>rw[IF,Kz,ih,K3,HZ]; lia
abbrev GJ (K:L7) (t:Adr):L2.Sp:=λvs H Q _=>∃(w:Wr) (wt:L6) (wl:List V) (oc:V) (Hd Hb:Hp) (L:List Lf) (fns:List F2.Fd) (cs:List (Str×List Spt)) (ms:List 0x8) (ol:L6) (us:List V) (c b z:Int),vs=[↥w.a,↥ol,.int c,.int b,.int z]/\Wm t Hd Hb H w wt L oc wl/\Dt K t Hd w fns cs ms/\wl.length<=100/\StA fns ms wl L/\aE K Hd ol us/\Rk2.Ps (gc K Hd) us L/\L≠[]/\∀A x B Hb' H',L=A++x::B->Wm t Hd Hb' H' w wt (A++({ x.1 with kvs:=putK x.1.kvs (Sum.inl b:aF) (.int z) },x.2)::B) oc wl->Q (.bl true) H'
section
variable {fns:List F2.Fd} {ms:List 0x8} {f g:Fm} {m m':Mk} {d e:L6}
def st0 (hf:∀F∈fns,FnOk F) :StA fns ms wl []:=#[hf,λi x h=>by simp at h,λi _=>.inr (.inl rfl),Hw _]
def oG (hf:∀F∈fns,FnOk F) (ma:eo ms f m) (ok:MkOk fns m) (dv:Rk2.DV f.kvs) (k1:f.kvs.length<=10000) (fi:f.first=0):StA fns ms [] [(f,m,d)]:=by
 have ow:∀k,Ow [f] [] k f:=λk=>#[Hj,.inr #[Hw _,[],rfl]]
 show#[hf,λi x h=>?_,λi h=>?_,(show(1:Nat)<=2 by decide)]
 . match i,h with
   | 0,h=>cases h; show#[ma,ok,dv,k1,fi,λk _=>ow _]
 . have h:m.ch.length<=i:=by unfold dB at h; simpa using h
   have:=ok.l3;exact .inr (.inr #[i,f,m,rfl,ow i,ma,∅,∅,∅])
def gj (hf:∀F∈fns,FnOk F) (ma:eo ms f m) (ok:MkOk fns m) (dv:Rk2.DV f.kvs) (k1:f.kvs.length<=10000) (fi:f.first=0) (ma':eo ms g m') (ok':MkOk fns m') (dv':Rk2.DV g.kvs) (k1':g.kvs.length<=10000) (fi':g.first=m.ch.length):StA fns ms (List.replicate m.ch.length (V.ref f.a)) [(f,m,d),(g,m',e)]:=by
 have ow:∀k,m.ch.length<=k->Ow [f,g] (List.replicate m.ch.length (V.ref f.a)) k g:=λk hk=>#[by simp,.inr #[by rw[JQ]; exact hk,[f],rfl]]
 have b1:dB [(f,m,d),(g,m',e)] 1=m.ch.length:=by unfold dB; simp
 show#[hf,λi x h=>?_,λi h=>?_,(show(2:Nat)<=2 by decide)]
 . match i,h with
   | 0,h=>cases h; show#[ma,ok,dv,k1,fi,λk hk=>#[by simp,.inl (by show(List.replicate m.ch.length (V.ref f.a))[0+k]?=_; rw[KH,Kn,He hk])]]
   | 1,h=>cases h; show#[ma',ok',dv',k1',by rw[b1]; exact fi',λk hk=>by rw[b1]; exact ow _ (Jq _ _)]
 . have h:m.ch.length+m'.ch.length<=i:=by unfold dB at h; simpa using h
   have:=ok'.l3;exact .inr (.inr #[i,g,m',rfl,ow i ∅,ma',∅,∅,∅])
end
def Wm.add {t:Adr} {Hd Hb H H':Hp} {w:Wr} {wt:L6} {L:List Lf} {oc:V} (h:Wm t Hd Hb H w wt L oc wl) (s:aB H H'):Wm t Hd (Wk.gr Hb H H') H' w wt L oc wl :=
 #[Own.grow h.c s,h.s\(Wk.gr_same h.c.b),λx hx=>Wk.gr_same h.c.b _ _ (h.at_ x hx),h.no,h.nd]
structure Wd where
 (o0 o2:Str)
 fns:List F2.Fd
 (m0 m1 m2 m3:Mk)
 ts:List Rk2.Tr
 far:Nat
 cs:List (Str×List Spt)
 ms:List 0x8
 ws:List Str
 kn:List (aF×V)
structure WdOk (X:Wd) (f:Fm):Prop where
 fn:∀F∈X.fns,FnOk F
 k0:MkOk X.fns X.m0
 k1:MkOk X.fns X.m1
 k2:MkOk X.fns X.m2
 k3:MkOk X.fns X.m3
 tl:X.ts.length<=20
 ts:∀u∈X.ts,dO u
 fr:(X.far:Int)<K21.wide
 sp2:∃sp,(X.o2,sp)∈X.cs/\sp[0]?=⇑#[[],.call X.o0 X.ts 1]/\sp[1]?=⇑#[[],.wait none 2]/\sp[2]?=⇑#[[],.back (.num X.far)]
 sp0:∃sp,(X.o0,sp)∈X.cs/\sp[0]?=⇑#[[],.back (.num 1)]
 mk2:∃l,(X.o2,l)∈X.ms/\l[0]?=⇑X.m0/\l[1]?=⇑X.m1/\l[2]?=⇑X.m2
 mk0:∃l,(X.o0,l)∈X.ms/\l[0]?=⇑X.m3
 f1:f.fn=X.o2
 f2:f.spot=0
 f3:f.first=0
 f4:Rk2.DV f.kvs
 f5:f.kvs.length<=100
abbrev MlA (K:L7) (H:Hp) (X:Wd) (ml:L6):Prop:=∃v0 v1 v2 v3,aE K H ml [v0,v1,v2,v3]/\dE K H X.m0 v0/\dE K H X.m1 v1/\dE K H X.m2 v2/\dE K H X.m3 v3
abbrev Ai (K:L7) (t:Adr):L2.Sp:=λvs H Q _=>∃(w:Wr) (wt:L6) (Hd Hb:Hp) (f:Fm) (X:Wd) (nd al ml d mo gl:L6) (gu:List V) (b c z:Int),vs=[↥w.a,↥nd,↥ml,↥d,↥mo]/\Wm t Hd Hb H w wt [(f,X.m0,d)] .non []/\Dt K t Hd w X.fns X.cs X.ms/\NmD K Hd nd al X.kn X.fns X.ws/\MlA K Hd X ml/\aE K Hd mo [.int X.far,↥gl,.int b,.int c,.int z]/\aE K Hd gl gu/\Rk2.Ps (Rk2.RAt Hd) gu X.ts/\0<=z/\z<K21.wide/\WdOk X f/\∀H',Q (.bl true) H'
structure FwA (K:W.Frag) (H:Hp) (os:List Str) (j:Nat) (x:Addr×F2.Fd):Prop where
 w:H x.1=⇑(.lst ((F2.nms x.2).map V.str))
 f:F2.FnAt K H x.2
 ok:FnOk x.2
 nm:os[j]?=⇑x.2.name
 p:x.2.ps.length<=3
def FwA.mono {K:L7} {H H':Hp} {os:List Str} {j:Nat} {x:L6×F2.Fd} (h:FwA K H os j x) (e:aB H H'):FwA K H' os j x:=#[e _ _ h.w,F2.FnAt.mono e h.f,h.ok,h.nm,h.p]
abbrev sp_law (K:L7):Sp:=λvs H Q _=>∃(a:L6) (ns:List Int),vs=[↥a]/\aE K H a (ns.map V.int)/\ns.length<=63/\∀H',Q (.bl true) H'
end
end K38
local macro_rules|`($a>=>$b)=>`(L2.aC $a $b rfl)|`($f<$>$a<*>$b)=>`(@L2.aL _ _ _ _ _ _ _ _ $f $a $b)
local macro_rules|`(~~~$a)=>`(@L2.aK _ _ _ (@L2.aR _ _ _ _ $a))
namespace K38
open PySem L2 K12
section
variable {P:Program} {w:World} {K:L7} {mg:Str->Hl K'} {base:Heap} {t:Adr}
def Ar:FnScope ["names"] ["names"] (aS m8):=by walk_at "s"
def vk (T:Txt K mg t):FnOk P w K mg base CX0 1 t.xT t.yk ["names"] (K12.sp_each_once K):=by
 refine T.each_once.F.ok Ar (λvs H Q E h=>?_) (λcdv A outer s H vs Q E hr h=>?_)
 . let#[_,_,rfl,_]:=h;rfl
 . let#[p0,ss,rfl,hS,hl,q]:=h;show#[_,(aI (@aR _ _ _ _ (de (Fs rfl) 0x0 T.b_list j5 ((de (El rfl) 0x0 T.b_dict wR ((dL (N':=["name"]) (js:=[none]) (by kernel_rfl) rfl (d6 (aA 0)) dD (λ_ _ _ _=>(aY (i:=0) (show(["name"]:List Str).Nodup by decide +kernel) rfl 0x5 (.inr rfl))) (λ_ _ _ _=>cj) (λ_ _ _ _=>(bA (aA 0>=>bW>=>aD))))>=>aD))>=>aD))) ac),?_];show#[5,p0,rfl,#[_,hS],λp hp=>qA (xs:=ss.map V.str) (by rw[HS]; lia) (λi acc H2=>i<=ss.length/\aB H H2/\H2 p=⇑(.lst acc)/\∃ps:List L6,acc=ps.map V.ref/\Paired (λa (kv:aF×V)=>aG K H2 a [kV kv.1,kv.2]) ps (cM (ss.take i))) #[Hw _,aB.new hp,aH,[],rfl,.nil] ?_ ?_ ?_]
   . rintro i acc H2 hi ⟨hi',s2,h2,ps,rfl,hps⟩;show#[h2,?_,s2.seq hS];have:=Paired.length hps;rw[HS,this];unfold cM;rw[HS,IE]
     lia
   . rintro i x acc H2 hx ⟨hi',s2,h2,ps,rfl,hps⟩;have hi:i<ss.length:=by have:=(HV.mp hx).1;rw[HS] at this;exact this
     rw[Hk] at hx;have hx:V.str ss[i]=x:=by simpa [hi] using hx
     subst hx;show#[5,(by show 2<=sizeLine; decide),λa ha=>?_];have hap:a≠p:=λz=>by rw[z,h2] at ha; cases ha
     have e:(upd H2 a (.tup [V.str ss[i],V.bl true])) p=⇑(.lst (ps.map V.ref)):=by rw[aM hap.symm]; exact h2
     show#[e,hi,?_,aH,ps++[a],by rw[Hq]; rfl,?_]
     . exact(s2\(aB.new ha)).upd hp
     . have e2:cM (ss.take (i+1))=cM (ss.take i)++[(Sum.inr ss[i],V.bl true)]:=by unfold cM;rw[IM,Hq];simp [hi]
       rw[e2];refine Paired.snoc (Paired.mapP hps λb kv z=>A3 ((aB.new ha)<*z) e) ?_;exact aG.of (by rw[aM hap]; exact aH)
   . rintro acc H2 ⟨hi',s2,h2,ps,rfl,hps⟩;have e0:ss.take (ss.map V.str).length=ss:=by rw[HS]; exact IP
     rw[e0] at hps;show#[p,ps,cM ss,rfl,aE.of h2,hps,by unfold cM; rw[HS]; lia,λd hd=>?_];rw[Dh];show#[d,cM (onceL ss),rfl,aH,λl hl'=>?_];rw[Cg];exact q l _ ((s2\(aB.new hd)).trans (aB.new hl')) (s2.free ((aB.new hd).free hl')) aH
def EB:FnScope ["row"] ["row"] (aS lh):=by walk_at "s"
def Ei (T:Txt K mg t):FnOk P w K mg base CX0 1 t.xV t.ym ["row"] (K12.sp_gives K):=by
 refine T.gives.F.ok EB (λvs H Q E h=>?_) (λcdv A outer s H vs Q E hr h=>?_)
 . let#[_,_,_,_,rfl,_]:=h;rfl
 . let#[r,xs,g,as,rfl,hr,hrow,q]:=h;show#[_,(aI (@aR _ _ _ _ (@gy _ _ _ _ _ _ _ _ (aj kL (iT K (aA 0)) (iI T.HK) (by with_unfolding_all rfl)) (iT K (aA 0)) eE)) ac),?_];let#[kd,h0,hc]:=BR hrow;show#[5,r,xs,19,hr,h0,t.rJ,giving.map V.str,rfl,.inr (T.HN H),rfl,CS,5,?_];rcases hc with⟨x,rfl,e,h1⟩|⟨rfl,e⟩
   . exact ag e #[5,r,xs,19,hr,h1,q]
   . exact aa (FK e) q
def Cs:FnScope ["row"] ["row"] (aS mJ):=by walk_at "s"
def zS (T:Txt K mg t):FnOk P w K mg base CX0 1 t.xR t.yi ["row"] (K12.sp_atoms_of K):=by
 refine T.atoms_of.F.ok Cs (λvs H Q E h=>?_) (λcdv A outer s H vs Q E hr h=>?_)
 . let#[_,_,_,_,rfl,_]:=h;rfl
 . let#[r,xs,g,as,rfl,hr,hrow,hl,q]:=h;show#[_,(aI (ae (aj ay (iT K (aA 0)) ah (af _)) (~~~(de qT 0x0 T.b_list j5 ((iT K (aA 0))>=>aD))) ac) (~~~(dL (N':=["place","row"]) (js:=[none,some 0]) (by kernel_rfl) rfl (nu (cB ug (iI T.HJ) (iT K (aA 0)) (λ_ _=>rfl))) dD (λ_ _ _ _=>(aY (i:=0) (show(["place","row"]:List Str).Nodup by decide +kernel) rfl 0x5 (.inr rfl))) (λ_ _ _ _=>cj) (λ_ _ _ _=>(iX K (aA 1) (aA 0)))))),?_];let#[kd,h0,hc]:=zf hrow;show#[5,r,xs,19,hr,h0,13,?_];rcases hc with⟨rfl,p,h3,hp⟩|⟨hne,pl,hk,hpl,hat⟩
   . exact ag (Hf rfl) #[5,r,xs,19,hr,h3,p,as,rfl,.inr hp,λl hl=>q l _ (aB.new hl) hl aH]
   . refine aa (λh=>hne (V.str.inj (bC h))) ?_;show#[5,r,xs,19,hr,h0,t.rL,tabl,19,T.HQ,hk,λa ha=>?_];show#[a,rfl,#[_,ha],λp hp=>qD (xs:=pl.map V.int) (by rw[HS]; lia) (λi acc H2=>acc=as.take i/\H2=upd H p (.lst acc)) #[7] ?_ ?_ ?_]
     . rintro i acc H2 hi ⟨rfl,rfl⟩;show#[aH,by rw[IE]; lia,(aB.new hp)<*ha]
     . rintro i x acc H2 hx ⟨rfl,rfl⟩;have hi:i<as.length:=by
         have:=(HV.mp hx).1;rw[HS] at this
         lia
       let#[p1,hp1,hp2]:=hat i as[i] (by simp [hi]);rw[Hk,hp1] at hx;have hx:V.int p1=x:=↑hx
       subst hx;show#[21,r,xs,19,(aB.new hp)<*hr,hp2,aH,?_,eX];rw[IM];simp [hi]
     . rintro acc H2 ⟨rfl,rfl⟩;have e:(as.take (pl.map V.int).length)=as:=by rw[HS,hpl]; exact IP
       exact q p _ (aB.new hp) hp (by rw[aH,e])
def GD:FnScope ["row"] ["row"] (aS lZ):=by walk_at "s"
def Ab (T:Txt K mg t):FnOk P w K mg base CX0 2 t.xy t.zC ["row"] (K12.sp_reads K):=by
 have Qq:=vk (P:=P) (w:=w) (base:=base) T;have QE:=zS (P:=P) (w:=w) (base:=base) T;refine T.reads.F.ok GD (λvs H Q E h=>?_) (λcdv A outer s H vs Q E hr h=>?_)
 . let#[_,_,_,_,rfl,_]:=h;rfl
 . let#[r,xs,g,as,rfl,hrw,hrow,hl,hat,q]:=h;show#[_,(aI (@aR _ _ _ _ (cD T.each_once Qq hr ((dL (N':=["atom"]) (js:=[none]) (by kernel_rfl) rfl (d6 (cD T.atoms_of QE hr (aA 0>=>aD))) dD (λ_ _ _ _=>(aY (i:=0) (show(["atom"]:List Str).Nodup by decide +kernel) rfl 0x5 (.inr rfl))) (λ_ _ _ _=>(Gw (cL (ax (show ao _ (.builtin "isinstance") (CT K) from kM) 0x0 T.b_isinstance dg (aA 0>=>(fw (v:=V.ty "str") rfl T.b_str vD rfl)>=>aD))))) (λ_ _ _ _=>(aA 0)))>=>aD))) ac),?_];show#[5,r,xs,g,as,rfl,hrw,hrow,hl,λl0 H1 s1 n1 e1=>?_];show#[l0,rfl,#[_,aE.of e1],λp hp=>qA (xs:=as) ∅ (λi acc H2=>acc=(dN (as.take i)).map V.str/\H2=upd H1 p (.lst acc)) #[7] ?_ ?_ ?_]
   . rintro i acc H2 hi ⟨rfl,rfl⟩;show#[aH,?_,(aB.new hp).seq (aE.of e1)];have:=qj (as.take i);rw[HS];rw[IE] at this
     lia
   . rintro i x acc H2 hx ⟨rfl,rfl⟩;have hi:i<as.length:=(HV.mp hx).1;have e2:dN (as.take (i+1))=dN (as.take i)++dN [x]:=by rw[IM,hx,BB];rfl
     rcases hat x (IA hx) with⟨s,rfl,hn⟩|⟨z,rfl⟩
     . show#[40,true,rfl,.str _,13,?_];show#[5,aH,?_,eX];rw[e2,Hq];rfl
     . show#[40,false,rfl,.int _,13,?_];show#[?_,?_]
       . rw[e2,FP,IQ]
       . rfl
   . rintro acc H2 ⟨rfl,rfl⟩;rw[IP];have hle:=qj as;show#[p,dN as,rfl,aE.of aH,∅,λl H3 s3 n3 e3=>q l H3 ((s1\(aB.new hp)).trans s3) (s1.free ((aB.new hp).free n3)) e3]
def oJ:FnScope ["function","found","row","given"] ["function"] (aS jH):=by walk_at "s"
def EM (T:Txt K mg t):FnOk P w K mg base CX0 3 t.xx t.zB ["function"] (K12.sp_names_of K):=by
 have Qq:=vk (P:=P) (w:=w) (base:=base) T;have QF:=Ei (P:=P) (w:=w) (base:=base) T;have QG:=Ab (P:=P) (w:=w) (base:=base) T;refine T.names_of.F.ok oJ (λvs H Q E h=>?_) (λcdv A outer s H vs Q E hr h=>?_)
 . let#[_,_,_,rfl,_]:=h;rfl
 . skip
   refine lx ?_;intro XX;refine(let W2:TS:=_; have hW2:aO XX ((aP jH).drop 2) W2:=(~~~(cD T.each_once Qq hr (aA 1>=>aD))); ?_);refine(let W1:TS:=_; have hW1:aO XX ((aP jH).drop 1) W1:=(aI (bq PassesOwn.never rfl (nu (iT K (aA 0))) (aY (i:=2) oJ.nd rfl 0x5) (aI (pS 3 oJ.nd (cD T.gives QF hr (aA 2>=>aD))) (aI (ae (eF (i3 (aA 3))) (@aK _ _ _ (@bS _ _ _ _ (cQ Ht IK IL fY (aA 1) (aA 3>=>aD)) 0x0)) ac) (@aK _ _ _ (@bS _ _ _ _ (cQ Ht JF JG oX (aA 1) ((cD T.reads QG hr (aA 2>=>aD))>=>aD)) 0x0))))) hW2); ?_);let#[f,ps,ds,rfl,hf,q]:=h;show#[_,(aI (pS 1 oJ.nd (de qT 0x0 T.b_list j5 ((iT K (aA 0))>=>aD))) hW1),?_];let#[n,b,pp,rr,hF,hP,hR]:=hf.fn;show#[5,f,35,hF,rfl,pp,5,.inr hP,λl hl=>?_];show#[5,f,35,(aB.new hl)<*hF,rfl,?_];show#[rr,rfl,#[_,(aB.new hl)<*hR],CG (xs:=ds.map λd=>V.ref d.r) (λi σ H2=>aB H H2/\∃v1 v2 fs,σ=[⇑↥f,⇑↥l,v1,v2]/\H2 l=⇑(.lst (List.map V.str fs))/\onceL fs=onceL (ps++(ds.take i).flatMap rowStrs)/\fs.length<=100+11 * i) #[aB.new hl,4,ps,rfl,aH,by simp,by have:=hf.pl; lia] ?_ ?_ ?_]
   . rintro i σ H2 hi ⟨s2,_⟩;exact s2<*hR
   . rintro i x σ H2 hx ⟨s2,v1,v2,fs,rfl,h2,ho,hlen⟩;have hi:i<ds.length:=by have:=(HV.mp hx).1;rw[HS] at this;exact this
     rw[Hk] at hx;have hx:V.ref ds[i].r=x:=by simpa [hi] using hx
     subst hx;have hd:=hf.rows ds[i] (IT hi);have hds:=hf.dl;have ef:(ds.take (i+1)).flatMap rowStrs=(ds.take i).flatMap rowStrs++rowStrs ds[i]:=by rw[IM,IZ];simp [hi]
     have hol:=DX (dN ds[i].as);have hsl:=qj ds[i].as;have hal:=hd.len;let#[xs,hr1,hr2]:=(hd*>s2).row;show#[5,ds[i].r,xs,9,hr1,hr2,?_];show#[21,?_];cases hg:ds[i].gx with
     | none =>
       refine eW #[5,.inl #[6,aE.of h2],5,ds[i].r,xs,9,hr1,hr2,hd.len,hd.ats,λl4 H4 s4 n4 e4=>?_];show#[l,l4,19,s4 _ _ h2,e4,gG (by rw[HS,HS]; lia),?_];show#[(s2\s4).upd hl,4,fs++[]++onceL (dN ds[i].as),rfl,(by rw[aH,IQ,Hq]),?_,(by simp only[HZ,JS]; lia)];rw[vg ho,ef,Ib];unfold rowStrs;rw[hg];rfl
     | some x =>
       refine kr #[5,.inl #[6,aE.of h2],5,l,19,h2,lt_line' (by rw[HS]; lia),?_];have s3:aB H (upd H2 l (.lst (List.map V.str fs++[V.str x]))):=s2.upd hl;let#[xs',hr1',hr2']:=(hd*>s3).row;show#[5,.inl #[6,aE.of aH],5,ds[i].r,xs',9,hr1',hr2',hd.len,hd.ats,λl4 H4 s4 n4 e4=>?_];show#[l,l4,19,s4 _ _ aH,e4,gG (by simp only[HZ,HS,II,JS]; lia),?_];show#[(s3\s4).upd hl,4,fs++[x]++onceL (dN ds[i].as),rfl,(by rw[aH,Hq,Hq]; rfl),?_,(by simp only[HZ,II,JS]; lia)];rw[vg ho,ef,Ib];unfold rowStrs;rw[hg];rfl
   . rintro σ H2 ⟨s2,v1,v2,fs,rfl,h2,ho,hlen⟩;rw[HS,IP] at ho;rw[HS] at hlen;have hds:=hf.dl;show#[5,l,fs,rfl,aE.of h2,∅,λl3 H3 s3 n3 e3=>q l3 H3 (s2\s3) (s2.free n3) ?_];rw[e3,ho];rfl
end
end K38
namespace K38
open PySem L2 K13
section
variable {P:Program} {w:World} {K:L7} {mg:Str->Hl K'} {base:Heap} {t:Adr}
def kH:FnScope ["rows","opened","begins","k","row"] ["rows"] (aS jq):=by walk_at "s"
def CK (T:Txt K mg t):FnOk P w K mg base CX0 1 t.xS t.yj ["rows"] (K13.sp_begins_of K):=by
 refine T.begins_of.F.ok kH (λvs H Q E h=>?_) (λcdv A outer s H vs Q E hr h=>?_)
 . let#[_,_,rfl,_]:=h;rfl
 . skip
   refine lx ?_;intro XX;refine(let W2:TS:=_; have hW2:aO XX ((aP jq).drop 2) W2:=(aI (bq PassesOwn.never rfl (sk rfl T.b_enumerate (aA 0>=>aD)) (ck rfl (bG (aY (i:=3) kH.nd rfl 0x5) (bG (aY (i:=4) kH.nd rfl 0x5) cV))) (@aK _ _ _ (ae (aj kL (iT K (aA 4)) (bA (ah>=>ah>=>aD)) (by with_unfolding_all rfl)) (@aK _ _ _ (@bS _ _ _ _ (cQ Ht IK IL fY (aA 1) (aA 3>=>aD)) 0x0)) (@aK _ _ _ (ae (aj ay (iT K (aA 4)) ah (af _)) (@aK _ _ _ (dJ (bV hr.units) (aA 2) (aA 3) (iY K (aA 1) (eS fB aJ)) 0x0)) (@aK _ _ _ (ae (aj ay (iT K (aA 4)) ah (af _)) (@aK _ _ _ (dJ (bV hr.units) (aA 2) (aA 3) (pJ Ht PySem.F.slot_list_pop PySem.F.type_list_pop uD (aA 1)) 0x0)) ac))))))) (~~~(aA 2))); ?_);let#[a,ks,rfl,hR,w,hn,q]:=h;show#[_,(aI (pS 1 kH.nd (bE aD)) (aI (pS 2 kH.nd dm) hW2)),?_];show#[cH,λol hol=>λd hd=>?_];let#[rs,e1,e2,e3]:=hR.ex;have hdo:d≠ol:=λz=>by rw[z,aH] at hd; cases hd
   have s0:aB H (upd (upd H ol (.lst [])) d (.dK [])):=(aB.new hol)\(aB.new hd);have hd0:H d=none:=(aB.new hol).free hd;show#[5,a,rfl,#[_,s0<*e1],uj (xs:=rs.map V.ref) (λi σ H2=>i<=ks.length/\aB H H2/\∃v3 v4,σ=[⇑↥a,⇑↥ol,⇑↥d,v3,v4]/\H2 ol=⇑(.lst (dj ks i))/\H2 d=⇑(.dK (bg ks i))) #[Hw _,s0,9,by rw[aM hdo.symm]; exact aH,aH] ?_ ?_ ?_]
   . rintro i σ H2 hi ⟨_,s2,_⟩;exact s2<*e1
   . rintro i x σ H2 b hx ⟨hi',s2,v3,v4,rfl,ho,hg⟩ hb;have hi:i<rs.length:=by have:=(HV.mp hx).1;rw[HS] at this;exact this
     rw[Hk] at hx;have hx:V.ref rs[i]=x:=by simpa [hi] using hx
     subst hx;let#[rest,hrow]:=e3 i rs[i] (by simp [hi]);have s3:aB H (upd H2 b (.tup [.int i,.ref rs[i]])):=s2\(aB.new hb);have ho3:=aB.new (o:=.tup [.int i,.ref rs[i]]) hb _ _ ho;have hg3:=aB.new (o:=.tup [.int i,.ref rs[i]]) hb _ _ hg;have sl:=HC ks i;have bl:=qt ks i;show#[b,5,aG.of aH,403,?_];show#[5,rs[i],35,s3<*hrow,bR,bH,λtw htw=>#[tw,[V.str "if",V.str "while"],rfl,.inr (aG.of aH),29,?_]];have s4:=s3\(aB.new (o:=.tup [V.str "if",V.str "while"]) htw);have ho4:=aB.new (o:=.tup [V.str "if",V.str "while"]) htw _ _ ho3;have hg4:=aB.new (o:=.tup [V.str "if",V.str "while"]) htw _ _ hg3;by_cases hO:isO (kd ks i)=true
     . refine ag ((inO _)\hO) ?_;show#[5,.inl #[6,aE.of ho4],5,ol,19,ho4,lt_line' ∅,?_];show#[∅,s4.upd hol,9,?_,?_]
       . rw[aH];have:stk ks (i+1)=i::stk ks i:=by rw[dS]; unfold push; rw[He hO]
         unfold dj;rw[this,List.reverse_cons,Hq];rfl
       . rw[aM hdo,tE (Fx hO)];exact hg4
     refine aa (λz=>hO ((inO _).symm.trans z)) ?_;show#[5,rs[i],35,s4<*hrow,bR,13,?_];by_cases h1:kd ks i="else"
     . refine ag (Hf (Hr V.str h1)) ?_;have hE:isE (kd ks i)=true:=by rw[h1]; decide +kernel
       obtain⟨t,r,ht⟩:∃t r,stk ks i=t::r:=by
         cases z:stk ks i with
         | nil=>exact absurd z (w.open_ i ∅ hE)
         | cons t r=>show#[t,r,rfl]
       let#[q1,q2,q3]:=tR ht;show#[21,ol,35,aE.of ho4,q1,21,d,5,cU.k (k:=Sum.inl (i:Int)) hg4 (lt_line' ∅),?_];show#[∅,s4.upd hd0,9,?_,?_]
       . rw[aM hdo.symm];have:stk ks (i+1)=stk ks i:=by rw[dS]; unfold push; rw[HX hO,HX (by rw[h1]; exact Eb)]
         unfold dj;rw[this];exact ho4
       . rw[aH,mX #[hE,by rw[ht]; rfl]]
     refine aa (λz=>h1 0xC) ?_;show#[5,rs[i],35,s4<*hrow,bR,13,?_];by_cases h2:kd ks i="end"
     . refine ag (Hf (Hr V.str h2)) ?_;have hE:isE (kd ks i)=true:=by rw[h2]; decide +kernel
       obtain⟨t,r,ht⟩:∃t r,stk ks i=t::r:=by
         cases z:stk ks i with
         | nil=>exact absurd z (w.open_ i ∅ hE)
         | cons t r=>show#[t,r,rfl]
       let#[q1,q2,q3]:=tR ht;show#[5,.inl #[6,aE.of ho4],ol,19,ho4,q2,21,d,5,cU.k (k:=Sum.inl (i:Int)) (by rw[aM hdo]; exact hg4) (lt_line' ∅),?_];show#[∅,(s4.upd hol).upd hd0,9,?_,?_]
       . rw[aM hdo.symm,aH,q3];have:stk ks (i+1)=r:=by rw[dS]; unfold push; rw[HX hO,He h2,ht]; rfl
         unfold dj;rw[this]
       . rw[aH,mX #[hE,by rw[ht]; rfl]]
     refine aa (λz=>h2 0xC) ?_;show#[∅,s4,9,?_,?_]
     . have:stk ks (i+1)=stk ks i:=by rw[dS]; unfold push; rw[HX hO,HX h2]
       unfold dj;rw[this];exact ho4
     . rw[tE (EJ h1 h2)];exact hg4
   . rintro σ H2 ⟨_,s2,v3,v4,rfl,ho,hg⟩;rw[HS,e2] at hg;show#[5,q d H2 s2 hd0 hg]
def gd:FnScope ["rows","begins","ends","k","begin","behind","follower","kind"] ["rows","begins"] (aS jG):=by walk_at "s"
def Aw (T:Txt K mg t):FnOk P w K mg base CX0 1 t.xU t.yl ["rows","begins"] (K13.sp_firsts_behind K):=by
 refine T.firsts_behind.F.ok gd (λvs H Q E h=>?_) (λcdv A outer s H vs Q E hr h=>?_)
 . let#[_,_,_,rfl,_]:=h;rfl
 . skip
   refine lx ?_;intro XX;refine(let W4:TS:=_; have hW4:aO XX ((aP jG).drop 4) W4:=(~~~(pv 5)); ?_);refine(let W2:TS:=_; have hW2:aO XX ((aP jG).drop 2) W2:=(aI (pS 5 gd.nd (sK<$>(bE (eE>=>aD))<*>(ax j4 0x0 T.b_len bQ (pv 0>=>aD)))) (aI (bq PassesOwn.never rfl (Gs rfl T.b_range ((g9<$>(ax j4 0x0 T.b_len bQ (pv 0>=>aD))<*>aJ)>=>eS fB aJ>=>eS fB aJ>=>aD)) (aY (i:=3) gd.nd rfl 0x5) (aI (pS 6 gd.nd (bU<$>pv 3<*>aJ)) (aI (pS 7 gd.nd (cB fH (cB fH (pv 0) (pv 6) (λ_ _=>rfl)) aJ (λ_ _=>rfl))) (@aK _ _ _ (ae (ik ay (pv 7) ah (af _)) (@aK _ _ _ (gS (cB gg (pv 5) (dw (bV hr.units) (pv 2) (dw (bV hr.units) (pv 1) (pv 6) (λ_ _=>rfl)) (λ_ _=>rfl)) (λ_ _=>rfl)) (j' (pv 5) (pv 3) jv))) (@aK _ _ _ (ae (@PW.pt _ _ _ (mj (ik ay (pv 7) ah (af _)) (oH (ik ay (cB fH (cB fH (pv 0) (dw (bV hr.units) (pv 1) (pv 6) (λ_ _=>rfl)) (λ_ _=>rfl)) aJ (λ_ _=>rfl)) ah (af _))))) (@aK _ _ _ (gS (dw (bV hr.units) (pv 1) (pv 6) (λ_ _=>rfl)) (j' (pv 5) (pv 3) jv))) (@aK _ _ _ (ae (ik ay (pv 7) ah (af _)) (@aK _ _ _ (gS (cB gg (pv 5) (pv 6) (λ_ _=>rfl)) (j' (pv 5) (pv 3) jv))) (@aK _ _ _ (gS (pv 6) (j' (pv 5) (pv 3) jv)))))))))))) hW4)); ?_);let#[a,d,ks,rfl,hR,w,hn,hd,q]:=h;show#[_,(aI (pS 2 gd.nd dm) (aI (bq PassesOwn.never rfl (sr (pv 1)) (ck rfl (bG (aY (i:=3) gd.nd rfl 0x5) (bG (aY (i:=4) gd.nd rfl 0x5) cV))) (@aK _ _ _ (dJ (bV hr.units) (pv 2) (pv 4) (pv 3) 0x0))) hW2)),?_];refine λed hed=>?_;have hde:d≠ed:=λz=>by rw[<- z,hd] at hed; cases hed
   show#[5,d,bg ks ks.length,rfl,.inl #[aB.new hed _ _ hd,λo=>?_]];have sF:aB (upd H d (.frz o (.dK (bg ks ks.length)))) (upd (upd H ed (.dK [])) d (.frz o (.dK (bg ks ks.length)))):=λb u h=>by
     by_cases hb:b=d
     . subst hb;rw[aH] at h ⊢;exact h
     . rw[aM hb] at h ⊢;rw[aM (λz=>by rw[z,hed] at h; cases h)];exact h
   have hF:(upd H d (.frz o (.dK (bg ks ks.length)))) d=⇑(.frz o (.dK (bg ks ks.length))):=aH;have hedF:(upd H d (.frz o (.dK (bg ks ks.length)))) ed=none:=by rw[aM hde.symm]; exact hed
   have hRF:RowsAt K (upd H d (.frz o (.dK (bg ks ks.length)))) a ks:=hR.frz hd;have qF:∀l H',aB (upd H d (.frz o (.dK (bg ks ks.length)))) H'->(upd H d (.frz o (.dK (bg ks ks.length)))) l=none->tO H' l ks->Q ↥l H':=λl H' h1 h2 h3=>q l o H' h1 (by rw[aM (λz=>by rw[z,hF] at h2; cases h2)] at h2; exact h2) h3;generalize upd H d (.frz o (.dK (bg ks ks.length)))=HF at sF hF hedF hRF qF;have bl:=qt ks ks.length;have pl:=pF ks ks.length;refine vJ (λi σ H2=>i<=(bg ks ks.length).length/\aB HF H2/\∃v3 v4 eds,σ=[⇑↥a,⇑↥d,⇑↥ed,v3,v4,none,none,none]/\H2 ed=⇑(.dK eds)/\eds.length<=i/\∀b:Nat,aq eds (Sum.inl (b:Int):aF)=(eI ((bL ks ks.length).take i) b).map λ(m:Nat)=>V.int (m:Int)) #[Hw _,sF,4,[],rfl,by rw[aM hde.symm]; exact aH,HY _,λb=>rfl] ?_ ?_ ?_
   . rintro i σ H2 hi ⟨_,s2,_⟩;exact s2 _ _ hF
   . rintro i kv σ H2 b hkv ⟨hi,s2,v3,v4,eds,rfl,he,hel,hv⟩ hb;let#[p,hp,rfl]:=rV hkv;have hlt:=(HV.mp hkv).1;have he3:=aB.new (o:=.tup [V.int (p.1:Int),V.int (p.2:Int)]) hb _ _ he;show#[b,5,aG.of aH,403,?_];show#[85,ed,5,cU.k (k:=Sum.inl (p.2:Int)) he3 (lt_line' ∅),?_];show#[hlt,(s2\(aB.new hb)).upd hedF,17,aH,?_,λb'=>?_]
     . exact Hu (dI _ _ _) ∅
     . rw[cZ,IM,hp];show _=(eI ((bL ks ks.length).take i++[p]) b').map _;rw[uH,hv b'];by_cases h:p.2=b'
       . rw[He h,He (by rw[h])];rfl
       . rw[HX h,HX (λz=>h (by have:(b':Int)=(p.2:Int):=Sum.inl.inj z; lia))]
   . rintro σ H2 ⟨_,s2,v3,v4,eds,rfl,he,hel,hv⟩;have hv:∀b:Nat,aq eds (Sum.inl (b:Int):aF)=(eI (bL ks ks.length) b).map λ(m:Nat)=>V.int (m:Int):=λb=>by rw[hv b];unfold bg g8;rw[HS,IP]
     let#[rs,r1,r2,r3]:=hRF.ex;have rl:(rs.map V.ref).length=ks.length:=by rw[HS,r2]
     show#[eh,λnl hnl=>#[5,a,5,.inr ((s2\(aB.new hnl))<*r1),nl,19,aH,∅,by rw[rl]; lia,by rw[rl]; exact gG (by simp; lia),λbl hbl=>?_]];have s3:=(s2\(aB.new (o:=.lst [V.non]) hnl)).trans (aB.new (o:=.lst (List.replicate (((rs.map V.ref).length:Int).toNat) [V.non]).flatten) hbl);have hbF:HF bl=none:=s2.free ((aB.new hnl).free hbl);have hbe:bl≠ed:=λz=>by have:=(aB.new hnl).free hbl;rw[z,he] at this;cases this
     have he3:=(aB.new (o:=.lst (List.replicate (((rs.map V.ref).length:Int).toNat) [V.non]).flatten) hbl) _ _ ((aB.new (o:=.lst [V.non]) hnl) _ _ he);show#[5,a,5,.inr (s3<*r1),309,(ks.length:Int) - 2,-1,by rw[rl],#[∅,∅,∅,∅],?_];have hnn:(((ks.length:Int) - 2) - -1).toNat=ks.length - 1:=by lia
     rw[hnn];refine DL (λi σ H4=>aB HF H4/\∃v3 v4 v6 v7 bs,σ=[⇑↥a,⇑↥d,⇑↥ed,v3,v4,⇑↥bl,v6,v7]/\H4 ed=⇑(.dK eds)/\H4 bl=⇑(.lst bs)/\bs.length=ks.length/\∀k,k+1<ks.length->ks.length - 1 - i<=k->∃r:Nat,Beh ks k r/\bs[k]?=⇑(.int (r:Int))) #[s3,65,he3,aH,by rw[rl]; exact D9 _,λk h1 h2=>by lia] ?_ ?_
     . rintro i σ H4 hi ⟨s4,v3,v4,v6,v7,bs,rfl,e4,b4,l4,hb4⟩;obtain⟨k,hk⟩:∃k:Nat,k+2+i=ks.length:=#[ks.length - 2 - i,∅]
       have ek:((ks.length:Int) - 2) - (i:Int)=(k:Int):=by lia
       rw[ek];have hR4:=hRF*>s4;have old:∀j,j+1<ks.length->k<j->∃r:Nat,Beh ks j r/\bs[j]?=⇑(.int (r:Int)):=λj h1 h2=>hb4 j h1 ∅;have fin:∀(r:Nat) (v3 v4 v6 v7:Hl V),Beh ks k r->aB HF (upd H4 bl (.lst (bs.set k (.int (r:Int)))))/\∃v3' v4' v6' v7' bs',([⇑↥a,⇑↥d,⇑↥ed,v3,v4,⇑↥bl,v6,v7]:St)=[⇑↥a,⇑↥d,⇑↥ed,v3',v4',⇑↥bl,v6',v7']/\(upd H4 bl (.lst (bs.set k (.int (r:Int))))) ed=⇑(.dK eds)/\(upd H4 bl (.lst (bs.set k (.int (r:Int))))) bl=⇑(.lst bs')/\bs'.length=ks.length/\∀j,j+1<ks.length->ks.length - 1 - (i+1)<=j->∃r:Nat,Beh ks j r/\bs'[j]?=⇑(.int (r:Int)):=λr v3 v4 v6 v7 hr=>by
         show#[s4.upd hbF,65,by rw[aM hbe.symm]; exact e4,aH,by rw[Je]; exact l4,λj h1 h2=>?_];by_cases hj:j=k
         . subst hj;show#[r,hr,by rw[Jh ∅]]
         . let#[r',q1,q2]:=old j h1 ∅;show#[r',q1,by rw[JB (λz=>hj z.symm)]; exact q2]
       have hix:cX bs.length (k:Int)=⇑k:=by unfold cX;rw[He ∅,He ∅,JI]
       have at_bs:∀j r:Nat,bs[j]?=⇑(.int (r:Int))->am bs (j:Int)=⇑(.int (r:Int)):=λj r h=>bp h;show#[83,?_];show fQ 6 (V.int ((k:Int)+1)) _ _ _;rw[show((k:Int)+1)=((k+1:Nat):Int) by lia];show#[21,ixk hR4 ∅ ∅ ?_];show#[45,?_];have ai:isE (kd ks (k+1))=true->∃b,(stk ks (k+1)).head?=⇑b:=λh=>by
         cases z:stk ks (k+1) with
         | nil=>exact absurd z (w.open_ (k+1) ∅ h)
         | cons b r=>show#[b,rfl]
       have fz:Rd H4 d (.dK (bg ks ks.length)):=.inr #[o,s4 _ _ hF];by_cases h1:kd ks (k+1)="else"
       . refine ag (Hf (Hr V.str h1)) ?_;have hE:isE (kd ks (k+1))=true:=by rw[h1]; decide +kernel
         let#[b,hb]:=ai hE;have hbo:=oy (#[hE,hb]:cY ks b (k+1));let#[e,hEn]:=ub w ∅ hbo.2;have h5:k+1<=e:=sM hEn #[hE,hb];have h6:e+1<ks.length:=by
           rcases Ig (e+1) ks.length with z|z
           . exact z
           . have:=w.last e (by have:=hEn.2.1; lia);rw[hEn.2.2.1] at this;exact absurd this.symm sS.2
         let#[r,hr1,hr2]:=old e h6 ∅;have g1:cr H4 d (.int ((k+1:Nat):Int)) ⇑(.int (b:Int)):=.inl #[_,Sum.inl ((k+1:Nat):Int),fz,rfl,(uB ks.length ∅ #[hE,hb]).symm];have g2:cr H4 ed (.int (b:Int)) ⇑(.int (e:Int)):=.inl #[_,Sum.inl (b:Int),.inl e4,rfl,by rw[hv b,Bo hEn]; rfl];show#[341,d,5,g1,ed,5,g2,bl,35,aE.of b4,at_bs e r hr2,21,bl,35,b4,hix,fin r _ _ _ _ (.els h1 hb hEn hr1)]
       refine aa (λz=>h1 0xC) ?_;show#[45,?_];by_cases h2:kd ks (k+1)="end"
       . have hE:isE (kd ks (k+1))=true:=by rw[h2]; decide +kernel
         let#[b,hb]:=ai hE;have hbo:=oy (#[hE,hb]:cY ks b (k+1));have g1:cr H4 d (.int ((k+1:Nat):Int)) ⇑(.int (b:Int)):=.inl #[_,Sum.inl ((k+1:Nat):Int),fz,rfl,(uB ks.length ∅ #[hE,hb]).symm];refine ag (Hf (Hr V.str h2)) ?_;show#[85,d,5,g1,ixk hR4 ∅ ∅ #[13,?_]];by_cases h3:kd ks b="while"
         . refine ag (Hf (Hr V.str h3)) ?_;show#[21,d,5,g1,21,bl,35,b4,hix,fin b _ _ _ _ (.whl h2 hb h3)]
         . refine aa (λz=>h3 0xC) ?_;show#[45,ag (Hf (Hr V.str h2)) ?_];have h6:k+1+1<ks.length:=by
             rcases Ig (k+1+1) ks.length with z|z
             . exact z
             . have:=w.last (k+1) ∅;rw[h2] at this;exact absurd this.symm sS.2
           let#[r,hr1,hr2]:=old (k+1) h6 ∅;show#[21,bl,35,aE.of b4,at_bs (k+1) r hr2,21,bl,35,b4,hix,fin r _ _ _ _ (.fin h2 hb h3 hr1)]
       . refine aa (λz=>h2 0xC) (eW ?_);show#[45,aa (λz=>h2 0xC) ?_];show#[85,bl,35,b4,hix,fin (k+1) _ _ _ _ (.oth h1 h2)]
     . rintro σ H4 ⟨s4,v3,v4,v6,v7,bs,rfl,e4,b4,l4,hb4⟩;show#[5,qF bl H4 s4 hbF #[bs,b4,l4,λk h1=>hb4 k h1 ∅]]
def gH:FnScope ["rows","begins","behind","turns","k","begin","found","row"] ["rows"] (aS i4):=by walk_at "s"
def C4 (T:Txt K mg t):FnOk P w K mg base CX0 2 t.yC t.zG ["rows"] (K13.sp_ways K):=by
 have QH:=CK (P:=P) (w:=w) (base:=base) T;have QI:=Aw (P:=P) (w:=w) (base:=base) T;refine T.ways.F.ok gH (λvs H Q E h=>?_) (λcdv A outer s H vs Q E hr h=>?_)
 . let#[_,_,rfl,_]:=h;rfl
 . skip
   refine lx ?_;intro XX;refine(let W6:TS:=_; have hW6:aO XX ((aP i4).drop 6) W6:=(~~~(pv 6)); ?_);refine(let W4:TS:=_; have hW4:aO XX ((aP i4).drop 4) W4:=(aI (pS 6 gH.nd (bE aD)) (aI (bq PassesOwn.never rfl (sk rfl T.b_enumerate (pv 0>=>aD)) (ck rfl (bG (aY (i:=4) gH.nd rfl 0x5) (bG (aY (i:=7) gH.nd rfl 0x5) cV))) (@aK _ _ _ (ae (ik kL (cB fH (pv 7) aJ (λ_ _=>rfl)) (bA (ah>=>ah>=>aD)) (by with_unfolding_all rfl)) (@aK _ _ _ (@bS _ _ _ _ (cQ Ht IK IL jO (pv 6) (eE>=>aD)) 0x0)) (@aK _ _ _ (ae (ik ay (cB fH (pv 7) aJ (λ_ _=>rfl)) ah (af _)) (@aK _ _ _ (@bS _ _ _ _ (cQ Ht IK IL jO (pv 6) (bA aD>=>aD)) 0x0)) (@aK _ _ _ (ae (eF (Ez (bV hr.units) (pv 4) (pv 3))) (@aK _ _ _ (@bS _ _ _ _ (cQ Ht IK IL jO (pv 6) ((bA ((cB gg (pv 2) (pv 4) (λ_ _=>rfl))>=>(cB gg (pv 2) (dw (bV hr.units) (pv 3) (pv 4) (λ_ _=>rfl)) (λ_ _=>rfl))>=>aD))>=>aD)) 0x0)) (@aK _ _ _ (@bS _ _ _ _ (cQ Ht IK IL jO (pv 6) ((bA ((cB gg (pv 2) (pv 4) (λ_ _=>rfl))>=>aD))>=>aD)) 0x0))))))))) hW6)); ?_);refine(let W2:TS:=_; have hW2:aO XX ((aP i4).drop 2) W2:=(aI (pS 3 gH.nd dm) (aI (bq PassesOwn.never rfl (sr (pv 1)) (ck rfl (bG (aY (i:=4) gH.nd rfl 0x5) (bG (aY (i:=5) gH.nd rfl 0x5) cV))) (@aK _ _ _ (@bS _ _ _ _ (E6 (pv 3) (pv 5) (pv 4) #[31]) 0x0))) hW4)); ?_);let#[a,ks,rfl,hR,w,hn,q]:=h;show#[_,(aI (pS 1 gH.nd (cD T.begins_of QH hr (pv 0>=>aD))) (aI (pS 2 gH.nd (cD T.firsts_behind QI hr (pv 0>=>pv 1>=>aD))) hW2)),?_];show#[5,a,ks,rfl,hR,w,hn,λd H1 s1 n1 e1=>?_];show#[21,a,d,ks,rfl,hR*>s1,w,hn,e1,λl o H2 s2 n2 hB=>?_];have s02:aB H H2:=(s1.upd n1)\s2;have hdF:H2 d=⇑(.frz o (.dK (bg ks ks.length))):=s2 _ _ aH;have hl0:H l=none:=s1.free n2;refine λtd htd=>?_;have bl:=qt ks ks.length;let#[bs,hb1,hb2,hb3]:=hB;show#[5,d,bg ks ks.length,rfl,.inr #[o,aB.new htd _ _ hdF,?_]];refine vJ (λi σ H3=>i<=(bg ks ks.length).length/\aB H2 H3/\∃v4 v5 tds,σ=[⇑↥a,⇑↥d,⇑↥l,⇑↥td,v4,v5,none,none]/\H3 td=⇑(.dK tds)/\tds.length<=i/\∀b:Nat,aq tds (Sum.inl (b:Int):aF)=(cO ((bL ks ks.length).take i) b).map λ(m:Nat)=>V.int (m:Int)) #[Hw _,aB.new htd,4,[],rfl,aH,HY _,λb=>rfl] ?_ ?_ ?_
   . rintro i σ H3 hi ⟨_,s3,_⟩;exact s3 _ _ hdF
   . rintro i kv σ H3 b hkv ⟨hi,s3,v4,v5,tds,rfl,he,hel,hv⟩ hb;let#[p,hp,rfl]:=rV hkv;have hlt:=(HV.mp hkv).1;have he3:=aB.new (o:=.tup [V.int (p.1:Int),V.int (p.2:Int)]) hb _ _ he;show#[b,5,aG.of aH,403,?_];have tk:∀b',cO ((bL ks ks.length).take (i+1)) b'=if(cO ((bL ks ks.length).take i) b').isSome=true then cO ((bL ks ks.length).take i) b' else if p.2=b' then ⇑p.1 else none:=λb'=>by rw[IM,hp];exact wW _ p b'
     show#[5,td,rfl,.inl #[tds,.inl he3],21,tds,Sum.inl (p.2:Int),he3,rfl,lt_line' ∅,λv hv'=>?_,λhv'=>?_]
     . show#[hlt,s3\(aB.new hb),4,tds,rfl,he3,∅,λb'=>?_];rw[hv b',tk b'];cases z:cO ((bL ks ks.length).take i) b' with
       | some m=>rfl
       | none =>
         rw[HX (show ¬ (none:Hl Nat).isSome=true by decide),HX];intro h;rw[h,hv b',z] at hv';cases hv'
     . show#[hlt,(s3\(aB.new hb)).upd htd,17,aH,Hu (dI _ _ _) ∅,λb'=>?_];rw[cZ,tk b'];by_cases h:p.2=b'
       . subst h;have z:cO ((bL ks ks.length).take i) p.2=none:=by
           rw[hv p.2] at hv';cases y:cO ((bL ks ks.length).take i) p.2 with
           | none=>rfl
           | some m=>rw[y] at hv'; cases hv'
         rw[He rfl,z,HX (show ¬ (none:Hl Nat).isSome=true by decide),He rfl];rfl
       . rw[HX (λz=>h (by have:(b':Int)=(p.2:Int):=Sum.inl.inj z; lia)),hv b',HX h];cases z:cO ((bL ks ks.length).take i) b' with
         | some m=>rfl
         | none=>rfl
   . rintro σ H3 ⟨_,s3,v4,v5,tds,rfl,he,hel,hv⟩;have hv:∀b:Nat,aq tds (Sum.inl (b:Int):aF)=(cO (bL ks ks.length) b).map λ(m:Nat)=>V.int (m:Int):=λb=>by rw[hv b];unfold bg g8;rw[HS,IP]
     let#[rs,r1,r2,r3]:=hR.ex;show#[cH,λfl hfl=>?_];have s03:=s02\s3;have hf2:H3 fl=none:=hfl;have htf:td≠fl:=λz=>by rw[<- z,he] at hfl; cases hfl
     have hf0:H fl=none:=s03.free hfl;show#[5,a,rfl,#[_,(s03\(aB.new hfl))<*r1],uj (xs:=rs.map V.ref) (λi σ H4=>i<=ks.length/\aB H3 H4/\(∃v4 v5 v7,σ=[⇑↥a,⇑↥d,⇑↥l,⇑↥td,v4,v5,⇑↥fl,v7])/\FoundN H4 fl ks i) #[Hw _,aB.new hfl,#[17],#[[],aH,rfl,λk v z=>by simp at z]] ?_ ?_ ?_]
     . rintro i σ H4 hi ⟨_,s4,_⟩;exact(s03\s4).tup r1
     . rintro i x σ H4 b hx ⟨hi',s4,⟨v4,v5,v7,rfl⟩,hF⟩ hb;have hi:i<rs.length:=by have:=(HV.mp hx).1;rw[HS] at this;exact this
       rw[Hk] at hx;have hx:V.ref rs[i]=x:=by simpa [hi] using hx
       subst hx;let#[rest,hrow]:=r3 i rs[i] (by simp [hi]);have s5:=s4\(aB.new (o:=.tup [.int i,.ref rs[i]]) hb);have hF5:=hF*>(aB.new (o:=.tup [.int i,.ref rs[i]]) hb);show#[b,5,aG.of aH,403,?_];show#[5,rs[i],35,(s03\s5)<*hrow,bR,bH,λtw htw=>#[tw,[V.str "else",V.str "end"],rfl,.inr (aG.of aH),29,?_]];have s6:=s5\(aB.new (o:=.tup [V.str "else",V.str "end"]) htw);let#[vs,f1,f2,f3]:=hF5*>(aB.new (o:=.tup [V.str "else",V.str "end"]) htw);generalize upd (upd H4 b (.tup [.int i,.ref rs[i]])) tw (.tup [V.str "else",V.str "end"])=H6 at s6 f1 f3 ⊢;have s06:=s03\s6;have fin:∀{H7:Hp} {v:V} {oo:Hl (List Nat)} (u4 u5 u7:Hl V),aB H6 H7->Due ks i oo->fT H7 v oo->i+1<=ks.length/\aB H3 (upd H7 fl (.lst (vs++[v])))/\(∃v4 v5 v7,([⇑↥a,⇑↥d,⇑↥l,⇑↥td,u4,u5,⇑↥fl,u7]:St)=[⇑↥a,⇑↥d,⇑↥l,⇑↥td,v4,v5,⇑↥fl,v7])/\FoundN (upd H7 fl (.lst (vs++[v]))) fl ks (i+1):=λu4 u5 u7 s7 hd hv=>by show#[∅,(s6\s7).upd hfl,#[17],FoundN.push (s7 _ _ f1) f2 (λk v z=>?_) hd hv];let#[o',d',y]:=f3 k v z;show#[o',d',y*>s7]
       by_cases hE:isE (kd ks i)=true
       . refine ag ((inE _)\hE) ?_;show#[5,.inl #[6,aE.of f1],fl,19,f1,lt_line' ∅,fin _ _ _ (aB.refl _) (.no hE) rfl]
       refine aa (λz=>hE ((inE _).symm.trans z)) ?_;show#[5,rs[i],35,s06<*hrow,bR,13,?_];by_cases hbk:kd ks i="back"
       . refine ag (Hf (Hr V.str hbk)) ?_;show#[5,.inl #[6,aE.of f1],cH,λp hp=>#[fl,19,aB.new hp _ _ f1,lt_line' ∅,fin _ _ _ (aB.new hp) (.back hbk) #[p,rfl,aH]]]
       refine aa (λz=>hbk 0xC) ?_;have hlast:=rp w ∅ hbk;let#[r,hr1,hr2]:=hb3 i hlast;have hb6:=(s3\s6) _ _ hb1;have ht6:=s6 _ _ he;show#[21,td,5,cr.k (k:=Sum.inl (i:Int)) ht6,5,?_];by_cases hO:isO (kd ks i)=true
       . let#[e,hEn]:=ub w ∅ hO;let#[f,hf]:=AD hEn;let#[r',hr3,hr4]:=hb3 f (DI w hf);have hvi:aq tds (Sum.inl (i:Int):aF)=⇑(V.int (f:Int)):=by rw[hv i,Cp hf]; rfl
         refine ag (by rw[hvi]; rfl) ?_;have g:cr H6 td (.int (i:Int)) ⇑(V.int (f:Int)):=.inl #[_,Sum.inl (i:Int),.inl ht6,rfl,hvi.symm];show#[5,.inl #[6,aE.of f1],21,l,35,aE.of hb6,bp hr2,85,td,5,g,l,35,aE.of hb6,bp hr4,bH,λp hp=>#[fl,19,aB.new hp _ _ f1,lt_line' ∅,fin _ _ _ (aB.new hp) (.two hO hf hr1 hr3) #[p,rfl,aH]]]
       . have hvi:aq tds (Sum.inl (i:Int):aF)=none:=by rw[hv i,GU hO]; rfl
         refine aa (by rw[hvi]; decide) ?_;show#[5,.inl #[6,aE.of f1],21,l,35,aE.of hb6,bp hr2,eh,λp hp=>#[fl,19,aB.new hp _ _ f1,lt_line' ∅,fin _ _ _ (aB.new hp) (.one hE hbk hO hr1) #[p,rfl,aH]]]
     . rintro σ H4 ⟨_,s4,⟨v4,v5,v7,rfl⟩,hF⟩;rw[HS,r2] at hF;show#[5,q fl H4 (s03\s4) hf0 hF]
end
end K38
namespace K38
open PySem L2 Gx Fl F2
section
variable {P:Program} {w:World} {K:L7} {mg:Str->Hl K'} {base:Heap} {t:Adr}
def qV:FnScope ["self","program","k","function"] ["self","program"] (aS eV):=by walk_at "s"
def Ak (T:Txt K mg t):FnOk P w K mg base CX0 4 t.xI t.yW ["self","program"] (DC K t):=by
 have QJ:=EM (P:=P) (w:=w) (base:=base) T;have QK:=C4 (P:=P) (w:=w) (base:=base) T;refine T.wq.F.ok qV (λvs H Q E h=>?_) (λcdv A outer s H vs Q E hr h=>?_)
 . let#[_,_,_,_,rfl,_]:=h;rfl
 . skip
   refine lx ?_;intro XX;refine(let W7:TS:=_; have hW7:aO XX ((aP eV).drop 7) W7:=(@aK _ _ _ (bq PassesOwn.never rfl (Dj rfl T.b_enumerate (aA 1>=>aD)) (ck rfl (bG (aY (i:=2) qV.nd rfl 0x5) (bG (aY (i:=3) qV.nd rfl 0x5) cV))) (aI (dJ (bV hr.units) (fD (aA 0)) (iT K (aA 3)) (aA 2) 0x0) (aI (dJ (bV hr.units) (fD (aA 0)) (iT K (aA 3)) (iT K (aA 3)) 0x0) (aI (dJ (bV hr.units) (fD (aA 0)) (iT K (aA 3)) (iT K (aA 3)) 0x0) (aI (dJ (bV hr.units) (fD (aA 0)) (iT K (aA 3)) (iT K (aA 3)) 0x0) (aI (dJ (bV hr.units) (fD (aA 0)) (iT K (aA 3)) (cD T.names_of QJ hr (aA 3>=>aD)) 0x0) (@aK _ _ _ (dJ (bV hr.units) (fD (aA 0)) (iT K (aA 3)) (cD T.ways QK hr ((iT K (aA 3))>=>aD)) 0x0))))))))); ?_);refine(let W6:TS:=_; have hW6:aO XX ((aP eV).drop 6) W6:=(gT (cK (aA 0) dm 0x0) hW7); ?_);refine(let W5:TS:=_; have hW5:aO XX ((aP eV).drop 5) W5:=(aI (cK (aA 0) dm 0x0) hW6); ?_);refine(let W4:TS:=_; have hW4:aO XX ((aP eV).drop 4) W4:=(aI (cK (aA 0) dm 0x0) hW5); ?_);refine(let W3:TS:=_; have hW3:aO XX ((aP eV).drop 3) W3:=(aI (cK (aA 0) dm 0x0) hW4); ?_);refine(let W2:TS:=_; have hW2:aO XX ((aP eV).drop 2) W2:=(aI (cK (aA 0) dm 0x0) hW3); ?_);refine(let W1:TS:=_; have hW1:aO XX ((aP eV).drop 1) W1:=(aI (cK (aA 0) dm 0x0) hW2); ?_);let#[x,dx,p,fns,rfl,hx,hS,n0,n12,hE,nd,q]:=h;show#[_,(aI (cK (aA 0) (iT K (iY K (aA 1) (eS fB aJ))) 0x0) hW1),?_];have fl:(fns.map λf=>V.ref f.fa).length=fns.length:=HS _;have np:0<fns.length:=List.length_pos_iff.mpr n0;obtain⟨fz,hz⟩:∃fz,fns[fns.length - 1]?=⇑fz:=#[fns[fns.length - 1],HU ∅]
   have hzT:=(hE fz (IA hz)).fn;have eL:am (fns.map λf=>V.ref f.fa) (-1)=⇑(V.ref fz.fa):=by
     unfold am cX;rw[HX #[],He (by rw[fl]; lia),Jc];have:((-1:Int)+((fns.map λf=>V.ref f.fa).length:Int)).toNat=fns.length - 1:=by rw[fl]; lia
     rw[this,Hk,hz];rfl
   show#[21,p,35,bK.seq hS,eL,fz.fa,35,bK<*hzT,bR,5,x,t.bj,dx,5,hx,T.dM.cl,T.ja,(by show 0<1000; decide),?_];have sx:∀{b:L6} {o:HO},ers x H b=⇑o->b≠x/\H b=⇑o:=λ{b o} e=>by
     have hb:b≠x:=λz=>by rw[z] at e; unfold ers at e; rw[He rfl] at e; cases e
     rw[ak hb] at e;show#[hb,e]
   have l1:=jP "last" (V.str fz.name) [] 0 (HY _);intro d0 h0;show#[5,x,t.bj,dx,5,au aH (Ne.symm (bI h0).1),T.dM.cl,T.jb,∅,?_];have l2:=jP "number_of" ↥d0 _ 1 l1;intro d1 h1;show#[5,x,t.bj,dx,5,au aH (Ne.symm (bI h1).1),T.dM.cl,T.jZ,∅,?_];have l3:=jP "folded_of" ↥d1 _ 2 l2;intro d2 h2;show#[5,x,t.bj,dx,5,au aH (Ne.symm (bI h2).1),T.dM.cl,T.jc,∅,?_];have l4:=jP "params_of" ↥d2 _ 3 l3;intro d3 h3;show#[5,x,t.bj,dx,5,au aH (Ne.symm (bI h3).1),T.dM.cl,T.jd,∅,?_];have l5:=jP "rows_of" ↥d3 _ 4 l4;intro d4 h4;show#[5,x,t.bj,dx,5,au aH (Ne.symm (bI h4).1),T.dM.cl,T.ig,∅,?_];have l6:=jP "names_in" ↥d4 _ 5 l5;show#[λσ' G=>∃d:Nat->L6,σ'=[⇑↥x,⇑↥p,none,none]/\FS t.bj G x dx (dA (V.str fz.name) d) d (λ_=>[])/\(∀i j,i<6->j<6->d i=d j->i=j)/\aB (ers x H) G/\∀k,ers x H (d k)=none,?_,?_]
   . intro d5 h5;let#[nx0,z0]:=bI h0;have q0:H d0=none:=z0;let#[nx1,z1]:=bI h1;let#[n10,w10]:=bI z1;let#[_,y10]:=bI w10;have q1:H d1=none:=y10;let#[nx2,z2]:=bI h2;let#[n21,w21]:=bI z2;let#[_,y21]:=bI w21;let#[n20,w20]:=bI y21;let#[_,y20]:=bI w20;have q2:H d2=none:=y20;let#[nx3,z3]:=bI h3;let#[n32,w32]:=bI z3;let#[_,y32]:=bI w32;let#[n31,w31]:=bI y32;let#[_,y31]:=bI w31;let#[n30,w30]:=bI y31;let#[_,y30]:=bI w30;have q3:H d3=none:=y30;let#[nx4,z4]:=bI h4;let#[n43,w43]:=bI z4;let#[_,y43]:=bI w43;let#[n42,w42]:=bI y43;let#[_,y42]:=bI w42;let#[n41,w41]:=bI y42;let#[_,y41]:=bI w41;let#[n40,w40]:=bI y41;let#[_,y40]:=bI w40;have q4:H d4=none:=y40;let#[nx5,z5]:=bI h5;let#[n54,w54]:=bI z5;let#[_,y54]:=bI w54;let#[n53,w53]:=bI y54;let#[_,y53]:=bI w53;let#[n52,w52]:=bI y53;let#[_,y52]:=bI w52;let#[n51,w51]:=bI y52;let#[_,y51]:=bI w51;let#[n50,w50]:=bI y51;let#[_,y50]:=bI w50;have q5:H d5=none:=y50;have inj:=zt (d0:=d0) (d1:=d1) (d2:=d2) (d3:=d3) (d4:=d4) (d5:=d5) (by simp [Ne.symm n10,Ne.symm n20,Ne.symm n30,Ne.symm n40,Ne.symm n50,Ne.symm n21,Ne.symm n31,Ne.symm n41,Ne.symm n51,Ne.symm n32,Ne.symm n42,Ne.symm n52,Ne.symm n43,Ne.symm n53,Ne.symm n54]);show#[5,x,t.bj,dx,5,au aH (Ne.symm nx5),T.dM.cl,T.je,∅,dd d0 d1 d2 d3 d4 d5,rfl,#[aH,λj hj=>?_],inj,λb o e=>au (au (au (au (au (au (au (au (au (au (au (au (au (sx e).2 (sx e).1) (cP (sx e).2 q0)) (sx e).1) (cP (sx e).2 q1)) (sx e).1) (cP (sx e).2 q2)) (sx e).1) (cP (sx e).2 q3)) (sx e).1) (cP (sx e).2 q4)) (sx e).1) (cP (sx e).2 q5)) (sx e).1,λk=>?_]
     . match j,hj with
       | 0,_=>exact au (au (au (au (au (au (au (au (au (au (au aH nx0) (Ne.symm n10)) nx0) (Ne.symm n20)) nx0) (Ne.symm n30)) nx0) (Ne.symm n40)) nx0) (Ne.symm n50)) nx0
       | 1,_=>exact au (au (au (au (au (au (au (au (au aH nx1) (Ne.symm n21)) nx1) (Ne.symm n31)) nx1) (Ne.symm n41)) nx1) (Ne.symm n51)) nx1
       | 2,_=>exact au (au (au (au (au (au (au aH nx2) (Ne.symm n32)) nx2) (Ne.symm n42)) nx2) (Ne.symm n52)) nx2
       | 3,_=>exact au (au (au (au (au aH nx3) (Ne.symm n43)) nx3) (Ne.symm n53)) nx3
       | 4,_=>exact au (au (au aH nx4) (Ne.symm n54)) nx4
       | 5,_=>exact au aH nx5
       | n+6,h=>lia
     . match k with
       | 0=>exact(ak nx0).trans q0
       | 1=>exact(ak nx1).trans q1
       | 2=>exact(ak nx2).trans q2
       | 3=>exact(ak nx3).trans q3
       | 4=>exact(ak nx4).trans q4
       | n+5=>exact(ak nx5).trans q5
   rintro σ' G ⟨d,rfl,hFS,inj,hsm,hfd⟩;show#[5,p,rfl,#[_,hsm.seq hS],(let Jv1:Nat->St->Hp->Prop:=λi σ H2=>∃(v2 v3:Hl V) (kv:Nat->List (aF×V)) (nl wl:Nat->L6),σ=[⇑↥x,⇑↥p,v2,v3]/\aB (ers x H) H2/\FS t.bj H2 x dx (dA (V.str fz.name) d) d kv/\kv 0=kD (λi _=>.int i) (fns.take i)/\kv 1=kD (λ_ f=>f.fo) (fns.take i)/\kv 2=kD (λ_ f=>↥f.pa) (fns.take i)/\kv 3=kD (λ_ f=>↥f.ra) (fns.take i)/\kv 4=kD (λi _=>↥(nl i)) (fns.take i)/\kv 5=kD (λi _=>↥(wl i)) (fns.take i)/\(∀j g,j<i->fns[j]?=⇑g->hl H2 (nl j)=⇑(.lst ((nms g).map V.str))/\K13.FoundN (hl H2) (wl j) (jU g) (jU g).length)/\∀j,j<6->(kv j).length<=i; Cf (xs:=fns.map λf=>V.ref f.fa) Jv1 #[8,λ_=>0,λ_=>0,rfl,hsm,hFS,127,λj g h=>absurd h (Ir _),λj hj=>HY _] ?_ ?_ ?_)]
   . rintro i σ H2 hi ⟨v2,v3,kv,nlf,wlf,rfl,s2,_⟩;exact s2.seq hS
   . rintro i y σ H2 b hy ⟨v2,v3,kv,nlf,wlf,rfl,s2,o2,k0,k1,k2,k3,k4,k5,hnw,kl⟩ hb;let#[f,hi,hm,rfl]:=Gn hy;have ilt:i<fns.length:=(HV.mp hi).1;have hT:=(hE f hm).fn;have hfu:=(hE f hm).fu;have fit:∀{n:Nat},n<=i+1->n<sizeLine:=λ{n} h=>w4 ∅;show#[b,5,aG.of aH,403,?_];have s3:=s2\(aB.new (o:=.tup [.int i,↥f.fa]) hb);have o3:=o2*>(aB.new (o:=.tup [.int i,↥f.fa]) hb);show#[21,x,t.bj,dx,9,o3.ob,T.dM.cl,T.jb,C0 _ _,5,f.fa,35,s3<*hT,bR,d 0,5,cU.k (k:=0x9) (show _=⇑(HO.dK (kv 0)) from o3.dc 0 #[]) (fit (by have:=kl 0 #[]; simpa using (by lia:_<=i+1))),?_];have s4:=aB.upd (o:=.dK (putK (kv 0) 0x9 (V.int i))) s3 (hfd 0);have o4:=o3.put inj 0 #[] (putK (kv 0) 0x9 (V.int i));show#[5,f.fa,35,s4<*hT,13,x,t.bj,dx,9,o4.ob,T.dM.cl,T.jZ,AR _ _,5,f.fa,35,s4<*hT,bR,d 1,5,cU.k (k:=0x9) (show _=⇑(HO.dK (kv 1)) from o4.dc 1 #[]) (fit (by have:=kl 1 #[]; simpa using (by lia:_<=i+1))),?_];have s5:=aB.upd (o:=.dK (putK (kv 1) 0x9 f.fo)) s4 (hfd 1);have o5:=o4.put inj 1 #[] (putK (kv 1) 0x9 f.fo);show#[5,f.fa,35,s5<*hT,13,x,t.bj,dx,9,o5.ob,T.dM.cl,T.jc,zu _ _,5,f.fa,35,s5<*hT,bR,d 2,5,cU.k (k:=0x9) (show _=⇑(HO.dK (kv 2)) from o5.dc 2 #[]) (fit (by have:=kl 2 #[]; simpa using (by lia:_<=i+1))),?_];have s6:=aB.upd (o:=.dK (putK (kv 2) 0x9 ↥f.pa)) s5 (hfd 2);have o6:=o5.put inj 2 #[] (putK (kv 2) 0x9 ↥f.pa);show#[5,f.fa,35,s6<*hT,13,x,t.bj,dx,9,o6.ob,T.dM.cl,T.jd,Ds _ _,5,f.fa,35,s6<*hT,bR,d 3,5,cU.k (k:=0x9) (show _=⇑(HO.dK (kv 3)) from o6.dc 3 #[]) (fit (by have:=kl 3 #[]; simpa using (by lia:_<=i+1))),?_];have s7:=aB.upd (o:=.dK (putK (kv 3) 0x9 ↥f.ra)) s6 (hfd 3);have o7:=o6.put inj 3 #[] (putK (kv 3) 0x9 ↥f.ra);show#[5,f.fa,f.ps,f.ds,rfl,hfu*>s7,λnl H8 e8 hnl hl8=>?_];have s8:=s7\e8;have o8:=o7*>e8;show#[5,x,t.bj,dx,9,o8.ob,T.dM.cl,T.ig,tP _ _,5,f.fa,35,s8<*hT,bR,d 4,5,cU.k (k:=0x9) (show _=⇑(HO.dK (kv 4)) from o8.dc 4 #[]) (fit (by have:=kl 4 #[]; simpa using (by lia:_<=i+1))),?_];have s9:=aB.upd (o:=.dK (putK (kv 4) 0x9 ↥nl)) s8 (hfd 4);have o9:=o8.put inj 4 #[] (putK (kv 4) 0x9 ↥nl);show#[5,f.fa,35,s9<*hT,rfl,f.ra,jU f,rfl,((hE f hm).old.mono s9).rows,(hE f hm).wf,(by unfold jU; rw[HS]; have:=(hE f hm).len; lia),λwl HA eA hwl hfn=>?_];have sA:=s9\eA;have oA:=o9*>eA;show#[5,x,t.bj,dx,9,oA.ob,T.dM.cl,T.je,EI _ _,5,f.fa,35,sA<*hT,bR,d 5,5,cU.k (k:=0x9) (show _=⇑(HO.dK (kv 5)) from oA.dc 5 #[]) (fit (by have:=kl 5 #[]; simpa using (by lia:_<=i+1))),?_];have sB:=aB.upd (o:=.dK (putK (kv 5) 0x9 ↥wl)) sA (hfd 5);have oB:=oA.put inj 5 #[] (putK (kv 5) 0x9 ↥wl);have c3:aB (hl H2) (hl H8):=by have z1:aB (hl H2) (hl (upd H2 b (.tup [.int i,↥f.fa]))):=(aB.new (o:=.tup [.int i,↥f.fa]) hb).hl;have z2:=e8.hl;rw[jE (o6.dc 3 #[]),jE (o5.dc 2 #[]),jE (o4.dc 1 #[]),jE (o3.dc 0 #[])] at z2;exact z1\z2
     have c4:aB (hl H8) (hl HA):=by have z2:=eA.hl;rw[jE (o8.dc 4 #[])] at z2;exact z2
     have c5:hl (upd HA (d 5) (.dK (putK (kv 5) 0x9 ↥wl)))=hl HA:=jE (oA.dc 5 #[]);show#[8,λj=>if j=i then nl else nlf j,λj=>if j=i then wl else wlf j,rfl,sB,oB,?_,?_,?_,?_,?_,?_,λj g hj hg=>?_,λj hj=>?_]
     . show putK (kv 0) 0x9 (V.int i)=_;rw[k0];exact iK hi nd (λ_ _ _=>rfl) rfl
     . show putK (kv 1) 0x9 f.fo=_;rw[k1];exact iK hi nd (λ_ _ _=>rfl) rfl
     . show putK (kv 2) 0x9 ↥f.pa=_;rw[k2];exact iK hi nd (λ_ _ _=>rfl) rfl
     . show putK (kv 3) 0x9 ↥f.ra=_;rw[k3];exact iK hi nd (λ_ _ _=>rfl) rfl
     . show putK (kv 4) 0x9 ↥nl=_;rw[k4];exact iK hi nd (λj _ hj=>by show V.ref (nlf j)=V.ref (if j=i then nl else nlf j); rw[HX ∅]) (by show V.ref nl=V.ref (if i=i then nl else nlf i); rw[He rfl])
     . show putK (kv 5) 0x9 ↥wl=_;rw[k5];exact iK hi nd (λj _ hj=>by show V.ref (wlf j)=V.ref (if j=i then wl else wlf j); rw[HX ∅]) (by show V.ref wl=V.ref (if i=i then wl else wlf i); rw[He rfl])
     . rw[c5];by_cases hji:j=i
       . subst hji;rw[hi] at hg;cases hg;show#[?_,?_]
         . show hl HA (if j=j then nl else nlf j)=_;rw[He rfl];exact c4 _ _ (w5 hl8)
         . show K13.FoundN (hl HA) (if j=j then wl else wlf j) _ _;rw[He rfl];exact hfn.hl
       . let#[y1,y2]:=hnw j g ∅ hg;show#[?_,?_]
         . show hl HA (if j=i then nl else nlf j)=_;rw[HX hji];exact c4 _ _ (c3 _ _ y1)
         . show K13.FoundN (hl HA) (if j=i then wl else wlf j) _ _;rw[HX hji];exact y2*>(c3\c4)
     . have e:=kl j hj
       match j,hj with
       | 0,_=>exact Hu (dI _ _ _) ∅
       | 1,_=>exact Hu (dI _ _ _) ∅
       | 2,_=>exact Hu (dI _ _ _) ∅
       | 3,_=>exact Hu (dI _ _ _) ∅
       | 4,_=>exact Hu (dI _ _ _) ∅
       | 5,_=>exact Hu (dI _ _ _) ∅
       | n+6,h=>lia
   . rintro σ H2 ⟨v2,v3,kv,nlf,wlf,rfl,s2,o2,k0,k1,k2,k3,k4,k5,hnw,kl⟩;rw[fl,IP] at k0 k1 k2 k3 k4 k5;exact q H2 s2 #[λf hf=>(hE f hf)*>s2,nd,dx,fz,d,kv,nlf,wlf,hz,o2,k0,k1,k2,k3,k4,k5,λi f hi=>by let#[y1,y2]:=hnw i f (by rw[fl]; exact(HV.mp hi).1) hi; show#[ot _ _ y1,y2*>ot]]
end
end K38
namespace K38
open PySem L2 K21
section
variable {P:Program} {w:World} {K:L7} {mg:Str->Hl K'} {base:Heap} {t:Adr}
def Gj:FnScope ["sign","one","other"] ["sign","one","other"] (aS mE):=by walk_at "s"
def Ci (T:Txt K mg t):FnOk P w K mg base CX0 1 t.yB t.zF ["sign","one","other"] (Ah K):=by
 refine T.value.F.ok Gj (λvs H Q E h=>?_) (λcdv A outer s H vs Q E hr h=>?_)
 . let#[_,_,_,rfl,_]:=h;rfl
 . let#[s,a,b,rfl,h1,h2,h3,h4,q]:=h;show#[_,(aI (ae (aj ay (aA 0) ah (af _)) (~~~(aV bD<$>(aw bU<$>aA 1<*>aA 2)<*>qh T.rN)) ac) (aI (ae (aj ay (aA 0) ah (af _)) (~~~(aV bD<$>(aw g9<$>aA 1<*>aA 2)<*>qh T.rN)) ac) (aI (ae (aj ay (aA 0) ah (af _)) (~~~(aV bD<$>(aV fX<$>aA 1<*>aA 2)<*>qh T.rN)) ac) (aI (ae (aj ay (aA 0) ah (af _)) (~~~(@gy _ _ _ _ _ _ _ _ (aj ay (aA 2) aJ (af _)) aJ (aV wQ<$>aA 1<*>aA 2))) ac) (aI (ae (aj ay (aA 0) ah (af _)) (~~~(@gy _ _ _ _ _ _ _ _ (aj (aw jD) (aA 1) (aA 2) (af _)) aJ aJ)) ac) (aI (ae (aj ay (aA 0) ah (af _)) (~~~(@gy _ _ _ _ _ _ _ _ (aj ay (aA 1) (aA 2) (af _)) aJ aJ)) ac) (aI (ae (aj ay (aA 0) ah (af _)) (~~~(aw wm<$>aA 1<*>aA 2)) ac) (aI (ae (aj ay (aA 0) ah (af _)) (~~~(aw uJ<$>aA 1<*>aA 2)) ac) (~~~(aw wE<$>aA 1<*>aA 2)))))))))),?_];have hw:wide=281474976710656:=rfl;show#[45,?_];by_cases k1:s="+"
   . refine ag (Hf (Hr V.str k1)) ?_;have e:valOf s a b=(a+b)%wide:=by unfold valOf; rw[He k1]
     rw[e] at q;show#[5427,(show(0:Int)<281474976710656 by decide),q]
   refine aa (λz=>k1 0xC) ?_;show#[45,?_];by_cases k2:s="-"
   . refine ag (Hf (Hr V.str k2)) ?_;have e:valOf s a b=(a - b)%wide:=by unfold valOf; rw[HX k1,He k2]
     rw[e] at q;show#[5427,(show(0:Int)<281474976710656 by decide),q]
   refine aa (λz=>k2 0xC) ?_;show#[45,?_];by_cases k3:s="*"
   . refine ag (Hf (Hr V.str k3)) ?_;have e:valOf s a b=(a * b)%wide:=by unfold valOf; rw[HX k1,HX k2,He k3]
     rw[e] at q;show#[339,.inl #[∅,∅],19,(show(0:Int)<281474976710656 by decide),q]
   refine aa (λz=>k3 0xC) ?_;show#[45,?_];by_cases k4:s="/"
   . refine ag (Hf (Hr V.str k4)) ?_;have e:valOf s a b=if b=0 then 0 else a / b:=by unfold valOf; rw[HX k1,HX k2,HX k3,He k4]
     rw[e] at q;show#[45,?_];by_cases hb:b=0
     . rw[He hb] at q;exact ag (Hf (Hr V.int hb)) q
     . rw[HX hb] at q;exact aa (λz=>hb (V.int.inj (bC z))) #[339,#[∅,∅],q]
   refine aa (λz=>k4 0xC) ?_;show#[45,?_];by_cases k5:s="<"
   . refine ag (Hf (Hr V.str k5)) ?_;have e:valOf s a b=if a<b then 1 else 0:=by unfold valOf; rw[HX k1,HX k2,HX k3,HX k4,He k5]
     rw[e] at q;show#[1357,?_];by_cases hb:a<b
     . rw[He hb] at q;exact ag (Hf hb) q
     . rw[HX hb] at q;exact aa (λz=>hb (bC z)) q
   refine aa (λz=>k5 0xC) ?_;show#[45,?_];by_cases k6:s="="
   . refine ag (Hf (Hr V.str k6)) ?_;have e:valOf s a b=if a=b then 1 else 0:=by unfold valOf; rw[HX k1,HX k2,HX k3,HX k4,HX k5,He k6]
     rw[e] at q;show#[173,?_];by_cases hb:a=b
     . rw[He hb] at q;exact ag (Hf (Hr V.int hb)) q
     . rw[HX hb] at q;exact aa (λz=>hb (V.int.inj (bC z))) q
   refine aa (λz=>k6 0xC) ?_;show#[45,?_];by_cases k7:s="&"
   . refine ag (Hf (Hr V.str k7)) ?_;have e:valOf s a b=Builtin.bitAnd a b:=by unfold valOf bw; rw[HX k1,HX k2,HX k3,HX k4,HX k5,HX k6,He k7]
     rw[e] at q;show#[339,q]
   refine aa (λz=>k7 0xC) ?_;show#[45,?_];by_cases k8:s="|"
   . refine ag (Hf (Hr V.str k8)) ?_;have e:valOf s a b=Builtin.bitOr a b:=by unfold valOf bw; rw[HX k1,HX k2,HX k3,HX k4,HX k5,HX k6,HX k7,He k8]
     rw[e] at q;show#[339,q]
   refine aa (λz=>k8 0xC) ?_;have e:valOf s a b=Builtin.bitXor a b:=by unfold valOf bw; rw[HX k1,HX k2,HX k3,HX k4,HX k5,HX k6,HX k7,HX k8]
   rw[e] at q;show#[339,q]
end
end K38
namespace K38
open PySem L2 K21 Rk2
section
variable {P:Program} {w:World} {K:L7} {mg:Str->Hl K'} {base:Heap} {t:Adr}
def vI:FnScope ["one","boxes"] ["one","boxes"] (aS nU):=by walk_at "s"
def oQ (T:Txt K mg t):∀n,FnOk P w K mg base CX0 (n+1) t.lO t.lR ["one","boxes"] (nA K n)
| 0=>T.worth.F.ok vI (λvs H Q E h=>by let#[tr,v,d,kvs,rfl,hd,hR,hD,dv,ok,q]:=h; exact absurd hd (Ir _)) (λcdv A outer s H vs Q E hr h=>by let#[tr,v,d,kvs,rfl,hd,hR,hD,dv,ok,q]:=h; exact absurd hd (Ir _))
| n+1=>by
 have QL:=Ci (P:=P) (w:=w) (base:=base) T;have Qd:FnOk P w K mg base CX0 (n+1) t.lO t.lR ["one","boxes"] (nA K n):=oQ T n;refine T.worth.F.ok vI (λvs H Q E h=>?_) (λcdv A outer s H vs Q E hr h=>?_)
 . let#[_,_,_,_,rfl,_]:=h;rfl
 . let#[tr,v,d,kvs,rfl,hd,hR,hD,dv,ok,q]:=h;show#[_,(aI (ae (aj ay (iT K (aA 0)) ah (af _)) (~~~(iT K (aA 0))) ac) (aI (ae (aj ay (iT K (aA 0)) ah (af _)) (~~~(qO (bV hr.units) (aA 1) (iT K (aA 0)) aJ #[31])) ac) (~~~(fe T.value QL (hr.mono ∅) ((iT K (aA 0))>=>(fe T.worth Qd (hr.mono ∅) ((iT K (aA 0))>=>aA 1>=>aD))>=>(fe T.worth Qd (hr.mono ∅) ((iT K (aA 0))>=>aA 1>=>aD))>=>aD))))),?_];cases tr with
   | num k =>
     let#[p,rfl,e]:=hR;show#[5,p,35,aG.of e,bR,13,ag (Hf rfl) #[5,p,35,aG.of e,rfl,q]]
   | box k =>
     let#[p,rfl,e]:=hR;show#[5,p,35,aG.of e,bR,13,aa (λz=>Dr 0xC) ?_];show#[5,p,35,aG.of e,bR,13,ag (Hf rfl) ?_];show#[5,d,rfl,.inl #[kvs,.inl hD],5,p,35,aG.of e,6,cr.k (k:=Sum.inl k) hD,vq (wM dv k) q]
   | op s l r =>
     let#[p,x,y,rfl,e,n1,n2,hx,hy]:=hR;have d1:dp l<n:=by have:max (dp l) (dp r)+1<n+1:=hd; lia
     have d2:dp r<n:=by have:max (dp l) (dp r)+1<n+1:=hd; lia
     let#[o1,o2]:=oN ok;have b1:=iM (ki dv) o1;have b2:=iM (ki dv) o2;show#[5,p,35,aG.of e,bR,13,aa (λz=>n2 0xC) ?_];show#[5,p,35,aG.of e,bR,13,aa (λz=>n1 0xC) ?_];show#[5,p,35,aG.of e,bR,5,p,35,aG.of e,13,l,x,d,kvs,rfl,d1,hx,hD,dv,o1,5,p,35,aG.of e,13,r,y,d,kvs,rfl,d2,hy,hD,dv,o2,s,9,b1.1,b2.1,b1.2,b2.2,q]
end
end K38
namespace K38
open PySem L2 Gx Fl Cw
section
variable {P:Program} {w:World} {K:L7} {mg:Str->Hl K'} {base:Heap} {t:Adr}
def Dy:FnScope ["act"] ["act"] (aS nJ):=by walk_at "s"
def AI (T:Txt K mg t):FnOk P w K mg base CX0 1 t.xz t.zD ["act"] (F8 K):=by
 refine T.reckonings_of.F.ok Dy (λvs H Q E h=>?_) (λcdv A outer s H vs Q E hr h=>?_)
 . obtain⟨a,v,rfl,⟨r,xs,rfl,hr,hx⟩,hl,q⟩:=h;rfl
 . obtain⟨a,v,rfl,⟨r,xs,rfl,hr,hx⟩,hl,q⟩:=h;show#[_,(aI (ae (aj ay (iT K (aA 0)) ah (af _)) (~~~(de qT 0x0 T.b_list j5 ((iT K (aA 0))>=>aD))) ac) (~~~(dL (N':=["place","act"]) (js:=[none,some 0]) (by kernel_rfl) rfl (nu (cB ug (iI T.HL) (iT K (aA 0)) (λ_ _=>rfl))) dD (λ_ _ _ _=>(aY (i:=0) (show(["place","act"]:List Str).Nodup by decide +kernel) rfl 0x5 (.inr rfl))) (λ_ _ _ _=>cj) (λ_ _ _ _=>(iX K (aA 1) (aA 0)))))),?_];let#[h0,us,hu,hc]:=ud hx;have lu:=Rk2.Ps.len hu;show#[5,r,35,hr,h0,13,?_];rcases hc with⟨hc,p,h3,hp⟩|⟨hne,pl,hk,hpl,hat⟩
   . exact ag (by rw[hc]; exact Hf rfl) #[5,r,35,hr,h3,p,us,rfl,.inr hp,λl hl=>q l us _ (aB.new hl) hl aH (pw (aB.new hl) hu)]
   . refine aa (λh=>hne (V.str.inj (bC h))) ?_;show#[5,r,35,hr,h0,t.rK,rtab,19,T.HP,hk,λa ha=>?_];show#[a,rfl,#[_,ha],λp hp=>(let Jv1:Nat->List V->Hp->Prop:=λi acc H2=>acc=us.take i/\H2=upd H p (.lst acc); qD (xs:=pl.map V.int) (by rw[HS]; lia) Jv1 #[7] ?_ ?_ ?_)]
     . rintro i acc H2 hi ⟨rfl,rfl⟩;show#[aH,by rw[IE]; lia,(aB.new hp)<*ha]
     . rintro i x acc H2 hx ⟨rfl,rfl⟩;have hi:i<us.length:=by
         have:=(HV.mp hx).1;rw[HS] at this
         lia
       let#[p1,hp1,hp2]:=hat i us[i] (by simp [hi]);rw[Hk,hp1] at hx;have hx:V.int p1=x:=↑hx
       subst hx;show#[21,r,35,(aB.new hp)<*hr,hp2,aH,?_,eX];rw[IM];simp [hi]
     . rintro acc H2 ⟨rfl,rfl⟩;have e:(us.take (pl.map V.int).length)=us:=by rw[HS,hpl]; exact IP
       exact q p us _ (aB.new hp) hp (by rw[aH,e]) (pw (aB.new hp) hu)
def ng:FnScope ["code","found","name","spots"] ["code"] (aS kW):=by walk_at "s"
def zh (T:Txt K mg t):FnOk P w K mg base CX0 1 t.yA t.zE ["code"] (zn K):=by
 refine T.spots_by_name.F.ok ng (λvs H Q E h=>?_) (λcdv A outer s H vs Q E hr h=>?_)
 . obtain⟨v,cs,Hb,rfl,hb,⟨p,us,rfl,hp,hu⟩,nd,hl,hk,q⟩:=h;rfl
 . skip
   refine lx ?_;intro XX;refine(let W2:TS:=_; have hW2:aO XX ((aP kW).drop 2) W2:=(~~~(aA 1)); ?_);obtain⟨v,cs,Hb,rfl,hb,⟨p,us,rfl,hp,hu⟩,nd,hl,hk,q⟩:=h;show#[_,(aI (pS 1 ng.nd dm) (aI (bq PassesOwn.never rfl (d6 (aA 0)) (ck rfl (bG (aY (i:=2) ng.nd rfl 0x5) (bG (aY (i:=3) ng.nd rfl 0x5) cV))) (@aK _ _ _ (dJ (bV hr.units) (aA 1) (aA 2) (dL (N':=["sets","act"]) (js:=[none,none]) (by kernel_rfl) rfl (d6 (aA 3)) (qU (ij (ij pf))) (λ_ _ _ _=>(show PG _ _ (jt K 2 _) from ck (n:=2) rfl (bG (aY (i:=0) (show(["sets","act"]:List Str).Nodup by decide +kernel) rfl 0x5 (.inr rfl)) (bG (aY (i:=1) (show(["sets","act"]:List Str).Nodup by decide +kernel) rfl 0x5 (.inr rfl)) cV)))) (λ_ _ _ _=>cj) (λ_ _ _ _=>(bA ((de (show ao _ (.type "tuple") (rm K) from jB) 0x0 T.b_tuple gQ (aA 0>=>aD))>=>aA 1>=>aD)))) 0x0))) hW2)),?_];have lu:=Rk2.Ps.len hu;refine λd hd=>?_;have hdb:Hb d=none:=hb.free hd;have s0:=aB.new (o:=.dK []) hd;show#[5,p,rfl,#[_,(hb\s0).seq hp],(let Jv1:Nat->St->Hp->Prop:=λi σ H2=>aB H H2/\∃v2 v3 kvs,σ=[⇑↥p,⇑↥d,v2,v3]/\H2 d=⇑(.dK kvs)/\kvs.length<=i/\le K (ers d (Wk.gr Hb H H2)) kvs (cs.take i); gB (xs:=us) Jv1 #[s0,17,aH,HY _,λ_ _ m=>by simp at m] ?_ ?_ ?_)]
   . rintro i σ H2 hi ⟨s2,_⟩;exact(hb\s2).seq hp
   . rintro i x σ H2 hx ⟨s2,v2,v3,kvs,rfl,e2,l2,n2⟩;have hi:i<cs.length:=by have:=(HV.mp hx).1; lia
     let#[v,hv,q1,l1,ws,rfl,hq1,hl1,hw]:=bt hu (HU hi);rw[hx] at hv;cases hv;have ok:=hk _ (IT hi);have lw:=Rk2.Ps.len hw;have b2:=hb\s2;show#[q1,5,b2<*hq1,403,?_];show#[5,l1,rfl,#[_,b2.seq hl1],λpL hpL=>hV (K:=K) (λj G v=>∃s,(cs[i].2)[j]?=⇑s/\gm K (ers d (Wk.gr Hb H G)) s v) (λ_ _ _ _ z z216_=>by let#[s,z1,z2]:=z216_; show#[s,z1,z2*>(gb z).ers]) (xs:=ws) ∅ (b2.seq hl1) hpL ?_ ?_ (λ_ _ _ _ h z217_=>by let#[a,xs,e1,e2,e3,x1,r1,f1,x2,r2,f2,f3,z]:=z217_; show#[a,xs,e1,e2,e3,x1,r1,f1,x2,r2,f2,f3,h _ _ z])]
     . rintro j y G R_ hy sG ⟨acc,eacc⟩ kk;have hj:j<cs[i].2.length:=by have:=(HV.mp hy).1; lia
       have hp0:=s2.free hpL;have sH:aB H G:=s2\sG;have sb:aB Hb G:=hb\sH;have dG:G d≠none:=λz=>by rw[sG _ _ e2] at z; cases z
       have pG:G pL≠none:=λz=>by rw[eacc] at z; cases z
       let#[v,hv,q2,p2,zs,av,rfl,hq2,hp2,hz,ha]:=bt hw (HU hj);rw[hy] at hv;cases hv;have ok2:=ok.2 _ (IT hj);have lz:=Rk2.Ps.len hz;show#[q2,5,sb<*hq2,1613,p2,zs,rfl,.inl #[sb.seq hp2,λl5 h5=>?_]];have s5:=aB.new (o:=.tup zs) h5;show#[5,bH,λb hB=>?_];have s6:=aB.new (o:=.tup [↥l5,av]) hB;have sA:=cw (Wk.gr_same (H2:=ers pL (upd (upd G l5 (.tup zs)) b (.tup [↥l5,av]))) hb) hdb;have n5p:l5≠pL:=λz=>pG (z ▸ h5);have n5d:l5≠d:=λz=>dG (z ▸ h5);have nbp:b≠pL:=λz=>pG (z ▸ s5.free hB);have nbd:b≠d:=λz=>dG (z ▸ s5.free hB);exact kk _ _ (s5\s6) #[_,HU hj,b,l5,zs,av,rfl,aG.of (by rw[ak nbd]; exact Wk.gr_new (sH.free (s5.free hB)) (by rw[ak nbp]; exact aH)),aG.of (by rw[ak n5d]; exact Wk.gr_new (sH.free h5) (by rw[ak n5p]; exact s6 _ _ aH)),Rk2.Ps.imp (λ_ _ z=>z*>sA) hz,ha*>sA]
     . rintro H3 vs s3 e3 l3 t3;have hpd:pL≠d:=λz=>by rw[z,e2] at hpL; cases hpL
       have ee:cs.take (i+1)=cs.take i++[(cs[i].1,cs[i].2)]:=by rw[IM,HU hi]; rfl
       show#[21,d,5,cU.k (k:=(Sum.inr cs[i].1:aF)) (s3 _ _ e2) (Rk2.lt_line' ∅),(s2\s3).upd hd,17,aH,?_,?_]
       . have:=Rk2.putK_len kvs (Sum.inr cs[i].1:aF) (V.ref pL)
         lia
       . rw[wY,ee];exact n2.put (gb s3).ers (by rw[ak hpd]; exact Wk.gr_new (s2.free hpL) e3) (jI ∅ λj v hv=>by let#[s,z1,z2]:=t3 j v hv; show#[s,z1,z2*>(gb bK).ers]) (vE nd (HU hi))
   . rintro σ H2 ⟨s2,v2,v3,kvs,rfl,e2,l2,n2⟩;rw[lu,IP] at n2;show#[5,q d H2 s2 #[kvs,Wk.gr_new hd e2,λg ss m=>?_]];let#[l,ws,a,b,c]:=n2 g ss m;show#[l,ws,a,bK _ _ b,Rk2.Ps.imp (λ_ _ z=>z*>bK) c]
def nO:FnScope ["table","found","name","marks"] ["table"] (aS kq):=by walk_at "s"
def zY (T:Txt K mg t):FnOk P w K mg base CX0 1 t.xu t.zA ["table"] (FI K):=by
 refine T.marks_by_name.F.ok nO (λvs H Q E h=>?_) (λcdv A outer s H vs Q E hr h=>?_)
 . obtain⟨v,ms,Hb,rfl,hb,⟨p,us,rfl,hp,hu⟩,nd,hl,hk,q⟩:=h;rfl
 . skip
   refine lx ?_;intro XX;refine(let W2:TS:=_; have hW2:aO XX ((aP kq).drop 2) W2:=(~~~(aA 1)); ?_);obtain⟨v,ms,Hb,rfl,hb,⟨p,us,rfl,hp,hu⟩,nd,hl,hk,q⟩:=h;show#[_,(aI (pS 1 nO.nd dm) (aI (bq PassesOwn.never rfl (d6 (aA 0)) (ck rfl (bG (aY (i:=2) nO.nd rfl 0x5) (bG (aY (i:=3) nO.nd rfl 0x5) cV))) (@aK _ _ _ (dJ (bV hr.units) (aA 1) (aA 2) (dL (N':=["chain","views"]) (js:=[none,none]) (by kernel_rfl) rfl (d6 (aA 3)) (qU (ij (ij pf))) (λ_ _ _ _=>(show PG _ _ (jt K 2 _) from ck (n:=2) rfl (bG (aY (i:=0) (show(["chain","views"]:List Str).Nodup by decide +kernel) rfl 0x5 (.inr rfl)) (bG (aY (i:=1) (show(["chain","views"]:List Str).Nodup by decide +kernel) rfl 0x5 (.inr rfl)) cV)))) (λ_ _ _ _=>cj) (λ_ _ _ _=>(bA (aA 0>=>(dL (N':=["places"]) (js:=[none]) (by kernel_rfl) rfl (Gk (λK=>vT K _) rfl (d6 (aA 1))) dD (λ_ _ _ _=>(aY (i:=0) (show(["places"]:List Str).Nodup by decide +kernel) rfl 0x5 (.inr rfl))) (λ_ _ _ _=>cj) (λ_ _ _ _=>(de (show ao _ (.type "tuple") (rm K) from jB) 0x0 T.b_tuple gQ (aA 0>=>aD))))>=>aD)))) 0x0))) hW2)),?_];have lu:=Rk2.Ps.len hu;refine λd hd=>?_;have hdb:Hb d=none:=hb.free hd;have s0:=aB.new (o:=.dK []) hd;show#[5,p,rfl,#[_,(hb\s0).seq hp],(let Jv1:Nat->St->Hp->Prop:=λi σ H2=>aB H H2/\∃v2 v3 kvs,σ=[⇑↥p,⇑↥d,v2,v3]/\H2 d=⇑(.dK kvs)/\kvs.length<=i/\mB K (ers d (Wk.gr Hb H H2)) kvs (ms.take i); gB (xs:=us) Jv1 #[s0,17,aH,HY _,λ_ _ m=>by simp at m] ?_ ?_ ?_)]
   . rintro i σ H2 hi ⟨s2,_⟩;exact(hb\s2).seq hp
   . rintro i x σ H2 hx ⟨s2,v2,v3,kvs,rfl,e2,l2,n2⟩;have hi:i<ms.length:=by have:=(HV.mp hx).1; lia
     let#[v,hv,q1,l1,ws,rfl,hq1,hl1,hw]:=bt hu (HU hi);rw[hx] at hv;cases hv;have ok:=hk _ (IT hi);have lw:=Rk2.Ps.len hw;have b2:=hb\s2;show#[q1,5,b2<*hq1,403,?_];show#[5,l1,rfl,#[_,b2.seq hl1],λpL hpL=>hV (K:=K) (λj G v=>∃s,(ms[i].2)[j]?=⇑s/\gh K (ers d (Wk.gr Hb H G)) s v) (λ_ _ _ _ z z218_=>by let#[s,z1,z2]:=z218_; show#[s,z1,z2*>(gb z).ers]) (xs:=ws) ∅ (b2.seq hl1) hpL ?_ ?_ (λ_ _ _ _ h z219_=>by let#[a,xs,e1,e2,e3,x1,r1,f1,x2,r2,f2,f3,z]:=z219_; show#[a,xs,e1,e2,e3,x1,r1,f1,x2,r2,f2,f3,h _ _ z])]
     . rintro j y G R_ hy sG ⟨acc,eacc⟩ kk;have hj:j<ms[i].2.length:=by have:=(HV.mp hy).1; lia
       have hp0:=s2.free hpL;have sH:aB H G:=s2\sG;have sb:aB Hb G:=hb\sH;have dG:G d≠none:=λz=>by rw[sG _ _ e2] at z; cases z
       have pG:G pL≠none:=λz=>by rw[eacc] at z; cases z
       let#[v,hv,q2,c2,l5,zs,rfl,hq2,hc2,hl5,hz]:=bt hw (HU hj);rw[hy] at hv;cases hv;have ok2:=ok.2 _ (IT hj);have lz:=Rk2.Ps.len hz;show#[q2,5,sb<*hq2,6453,l5,rfl,#[_,sb.seq hl5],λpM hpM=>hV (K:=K) (λn G v=>∃s,(ms[i].2[j].vs)[n]?=⇑s/\ke K (ers d (Wk.gr Hb H (ers pL G))) s v) (λ_ _ _ _ z z220_=>by let#[s,z1,z2]:=z220_; show#[s,z1,z2*>(gb z.ers).ers]) (xs:=zs) ∅ (sb.seq hl5) hpM ?_ ?_]
       . rintro n y2 G2 R2 hy2 sG2 ⟨acc2,eacc2⟩ kk2;have hn:n<ms[i].2[j].vs.length:=by have:=(HV.mp hy2).1; lia
         let#[v,hv,q3,ys,rfl,hq3,hys]:=bt hz (HU hn);rw[hy2] at hv;cases hv;show#[5,q3,ys,rfl,.inl #[(sb\sG2).seq hq3,λl6 h6=>?_]];have s6:=aB.new (o:=.tup ys) h6;have sA:=cw (Wk.gr_same (H2:=ers pL (ers pM (upd G2 l6 (.tup ys)))) hb) hdb;have n6p:l6≠pL:=λz=>pG (z ▸ sG2.free h6);have n6d:l6≠d:=λz=>dG (z ▸ sG2.free h6);have n6m:l6≠pM:=λz=>by rw[z,eacc2] at h6; cases h6
         exact kk2 _ _ s6 #[_,HU hn,l6,ys,rfl,aG.of (by rw[ak n6d]; exact Wk.gr_new (sH.free (sG2.free h6)) (by rw[ak n6p,ak n6m]; exact aH)),Rk2.Ps.imp (λ_ _ z=>bd.mono sA z) hys]
       . rintro H4 vs4 s4 e4 l4 t4;show#[bH,λb hB=>?_];have s6:=aB.new (o:=.tup [↥c2,↥pM]) hB;have sA:=cw (Wk.gr_same (H2:=ers pL (upd H4 b (.tup [↥c2,↥pM]))) hb) hdb;have nmp:pM≠pL:=λz=>pG (z ▸ hpM);have nmd:pM≠d:=λz=>dG (z ▸ hpM);have nbp:b≠pL:=λz=>pG (z ▸ s4.free hB);have nbd:b≠d:=λz=>dG (z ▸ s4.free hB);have sB:aB (ers d (Wk.gr Hb H (ers pL (ers pM H4)))) (ers d (Wk.gr Hb H (ers pL (upd H4 b (.tup [↥c2,↥pM]))))):=(gb (bK\s6).ers).ers;exact kk _ _ (s4\s6) #[_,HU hj,b,c2,pM,vs4,rfl,aG.of (by rw[ak nbd]; exact Wk.gr_new (sH.free (s4.free hB)) (by rw[ak nbp]; exact aH)),hc2*>sA,by rw[ak nmd]; exact Wk.gr_new (sH.free hpM) (by rw[ak nmp]; exact s6 _ _ e4),jI ∅ λn v hv=>by let#[s,z1,z2]:=t4 n v hv; show#[s,z1,z2*>sB]]
     . rintro H3 vs s3 e3 l3 t3;have hpd:pL≠d:=λz=>by rw[z,e2] at hpL; cases hpL
       have ee:ms.take (i+1)=ms.take i++[(ms[i].1,ms[i].2)]:=by rw[IM,HU hi]; rfl
       show#[21,d,5,cU.k (k:=(Sum.inr ms[i].1:aF)) (s3 _ _ e2) (Rk2.lt_line' ∅),(s2\s3).upd hd,17,aH,?_,?_]
       . have:=Rk2.putK_len kvs (Sum.inr ms[i].1:aF) (V.ref pL)
         lia
       . rw[wY,ee];exact n2.put (gb s3).ers (by rw[ak hpd]; exact Wk.gr_new (s2.free hpL) e3) (jI ∅ λj v hv=>by let#[s,z1,z2]:=t3 j v hv; show#[s,z1,z2*>(gb bK).ers]) (vE nd (HU hi))
   . rintro σ H2 ⟨s2,v2,v3,kvs,rfl,e2,l2,n2⟩;rw[lu,IP] at n2;show#[5,q d H2 s2 #[kvs,Wk.gr_new hd e2,λg ss m=>?_]];let#[l,ws,a,b,c]:=n2 g ss m;show#[l,ws,a,bK _ _ b,Rk2.Ps.imp (λ_ _ z=>z*>bK) c]
def GK:FnScope ["self","function","args","first"] ["self","function","args","first"] (aS iF):=by walk_at "s"
def A7 (T:Txt K mg t):FnOk P w K mg base CX0 1 t.ww t.yG ["self","function","args","first"] (DR K t):=by
 refine T.wn.F.ok GK (λvs H Q E h=>?_) (λcdv A outer s H vs Q E hr h=>?_)
 . let#[_,_,_,_,_,_,rfl,_]:=h;rfl
 . skip
   refine lx ?_;intro XX;refine(let W3:TS:=_; have hW3:aO XX ((aP iF).drop 3) W3:=(@aK _ _ _ (cK (aA 0) (aA 3) 0x0)); ?_);refine(let W2:TS:=_; have hW2:aO XX ((aP iF).drop 2) W2:=(aI (cK (aA 0) (AS rfl 0x0 T.b_dict 0x0 T.b_enumerate (aA 2>=>aD)) 0x0) hW3); ?_);refine(let W1:TS:=_; have hW1:aO XX ((aP iF).drop 1) W1:=(aI (cK (aA 0) aJ 0x0) hW2); ?_);let#[x,dx,ar,g,ys,n,rfl,h,ha,hy,q]:=h;show#[_,(aI (cK (aA 0) (aA 1) 0x0) hW1),?_];show#[21,x,17,h,T.c9.cl,T.ib,#[],?_];show#[5,x,17,aH,T.c9.cl,T.gV,(show(1:Nat)<1000 by decide),?_];show#[5,ar,ys,rfl,aB.seq ?_ ha,∅,λd H' nd s' e'=>?_]
   . rw[eX]; exact qL
   have ndx:d≠x:=λz=>by rw[z,aH] at nd; cases nd
   rw[eX] at nd s';rw[aM ndx] at nd;show#[5,x,17,s' _ _ aH,T.c9.cl,T.gs,(show(2:Nat)<1000 by decide),?_];show#[21,x,17,aH,T.c9.cl,T.eQ,(show(3:Nat)<1000 by decide),?_];rw[eX];exact q d _ nd ((qL\s').upd iD) #[aH,by rw[aM ndx]; exact e']
def Fp:FnScope ["self","reckonings"] ["self","reckonings"] (aS mZ):=by walk_at "s"
def uA (T:Txt K mg t):FnOk P w K mg base CX0 12 t.wx t.yH ["self","reckonings"] (Cy K t):=by
 have Qd:FnOk P w K mg base CX0 11 t.lO t.lR ["one","boxes"] (nA K 10):=oQ T 10;refine T.lD.F.ok Fp (λvs H Q E h=>?_) (λcdv A outer s H vs Q E hr h=>?_)
 . let#[_,_,_,_,rfl,_]:=h;rfl
 . let#[f,l,us,ts,rfl,h,hl,hu,ht,dv,hn,q]:=h;show#[_,(aI (@aR _ _ _ _ (dL (N':=["one","self"]) (js:=[none,some 0]) (by kernel_rfl) rfl (d6 (aA 1)) dD (λ_ _ _ _=>(aY (i:=0) (show(["one","self"]:List Str).Nodup by decide +kernel) rfl 0x5 (.inr rfl))) (λ_ _ _ _=>cj) (λ_ _ _ _=>(cD T.worth Qd hr (aA 0>=>(Aa (K:=K) rfl (aA 1) 0x0)>=>aD))))) ac),?_];have lu:=Rk2.Ps.len hu;show#[5,l,rfl,#[_,hl],λp hp=>hV (K:=K) (λi G v=>∃u,ts[i]?=⇑u/\v=.int (Rk2.wv (Rk2.fOf f.kvs) u)) (λ_ _ _ _ _ z=>z) (xs:=us) ∅ hl hp ?_ ?_]
   . rintro i x G R_ hx sG ⟨acc,eacc⟩ kk;have hi:i<ts.length:=by have:=(HV.mp hx).1; lia
     let#[v,hv,hR]:=bt hu (HU hi);rw[hx] at hv;cases hv;have ok:=ht _ (IT hi);have h2:FrAt t G f:=#[sG _ _ h.o,sG _ _ h.n]
     show#[21,f.a,33,h2.o,T.c9.cl,T.gs,6,x,f.bx,f.kvs,rfl,ok.1,hR*>sG,h2.n,dv,ok.2,kk _ _ (aB.refl _) #[_,HU hi,rfl]]
   . rintro G vs sG eG lG tG;have e:vs=(ts.map (Rk2.wv (Rk2.fOf f.kvs))).map V.int:=by
       apply List.ext_getElem?;intro i;rw[Iq,Hk];cases hv:vs[i]? with
       | none =>
         have:ts[i]?=none:=by rw[JZ] at hv ⊢; lia
         rw[this]; rfl
       | some v =>
         let#[u,h1,h2]:=tG i v hv;rw[h1,h2]; rfl
     rw[e] at eG;exact q p G sG hp eG
def AM:FnScope ["self","box","number"] ["self","box","number"] (aS nE):=by walk_at "s"
def qP (T:Txt K mg t):FnOk P w K mg base CX0 1 t.wu t.yF ["self","box","number"] (Bx K t):=by
 refine T.iO.F.ok AM (λvs H Q E h=>?_) (λcdv A outer s H vs Q E hr h=>?_)
 . let#[_,_,_,rfl,_]:=h;rfl
 . let#[f,b,z,rfl,h,hl,q]:=h;show#[_,(aI (ae (eF (i3 (aA 1))) (@aK _ _ _ (dJ (bV hr.units) (fD (aA 0)) (aA 1) (aA 2) 0x0)) ac) ac),?_];cases b with
   | none=>show#[21,eW (q H bK h.n)]
   | some k =>
     show#[21,kr ?_];show#[21,f.a,33,h.o,T.c9.cl,T.gs,13,f.bx,5,cU.k (k:=(Sum.inl k:aF)) h.n (Rk2.lt_line' ∅),?_];exact q _ (λb o e=>by rw[aM (λz=>by rw[z] at e; unfold L2.ers at e; rw[He rfl] at e; cases e)]; exact bK _ _ e) aH
def lg:FnScope ["self","sets","numbers","pair","number"] ["self","sets"] (aS kC):=by walk_at "s"
def sf (T:Txt K mg t):FnOk P w K mg base CX0 13 t.wr t.yE ["self","sets"] (DK K t):=by
 have Qr:=uA (P:=P) (w:=w) (base:=base) T;have Qg:=qP (P:=P) (w:=w) (base:=base) T;refine T.lC.F.ok lg (λvs H Q E h=>?_) (λcdv A outer s H vs Q E hr h=>?_)
 . let#[_,_,_,_,rfl,_]:=h;rfl
 . skip
   refine lx ?_;intro XX;refine(let W1:TS:=_; have hW1:aO XX ((aP kC).drop 1) W1:=(@aK _ _ _ (bq PassesOwn.never rfl (ql true false rfl T.b_zip (aA 1>=>aA 2>=>aD)) (ck rfl (bG (aY (i:=3) lg.nd rfl 0x5) (bG (aY (i:=4) lg.nd rfl 0x5) cV))) (@aK _ _ _ (@bS _ _ _ _ (bJ (aA 0) T.c9.cl T.iO.m Qg (hr*>#[]) T.iO.b .nil bM ((iT K (aA 3))>=>aA 4>=>aD)) 0x0)))); ?_);let#[f,p,us,ss,rfl,h,hp,hu,ok,dv,hn,hl,q]:=h;show#[_,(aI (pS 2 lg.nd (bJ (aA 0) T.c9.cl T.lD.m Qr (hr*>#[]) T.lD.b .nil bM ((dL (N':=["pair"]) (js:=[none]) (by kernel_rfl) rfl (nu (aA 1)) dD (λ_ _ _ _=>(aY (i:=0) (show(["pair"]:List Str).Nodup by decide +kernel) rfl 0x5 (.inr rfl))) (λ_ _ _ _=>cj) (λ_ _ _ _=>(iT K (aA 0))))>=>aD))) hW1),?_];have lu:=Rk2.Ps.len hu;show#[5,f.a,f.dx,5,h.o,13,p,rfl,#[_,bK<*hp],λpL hpL=>Bl (K:=K) (λi G v=>∃s,ss[i]?=⇑s/\Rk2.RAt G s.2 v) (λ_ _ _ _ z z221_=>by let#[s,z1,z2]:=z221_; show#[s,z1,z2*>z]) (xs:=us) ∅ (bK<*hp) hpL ?_ ?_]
   . rintro i x G R_ hx sG ⟨acc,eacc⟩ kk;have hi:i<ss.length:=by have:=(HV.mp hx).1; lia
     let#[v,hv,q1,y,rfl,hq1,hr1]:=bt hu (HU hi);rw[hx] at hv;cases hv;show#[5,q1,35,(bK\sG)<*hq1,rfl,kk _ _ (aB.refl _) #[_,HU hi,hr1*>(bK\(cw sG hpL))]]
   rintro H3 vs s3 e3 l3 t3;show#[f,pL,vs,ss.map (·.2),rfl,#[s3 _ _ h.o,s3 _ _ h.n],aE.of e3,jI (by rw[HS]; lia) (λi v hv=>?_),(λu hu=>?_),dv,by rw[HS]; lia,λl' H4 s4 n4 e4=>?_]
   . let#[s,z1,z2]:=t3 i v hv;show#[s.2,by rw[Hk,z1]; rfl,z2*>bK]
   . let#[s,z1,rfl]:=IJ.mp hu;exact ok s z1
   have s04:=s3\s4;have nl:l'≠f.bx:=λz=>by rw[z,s3 _ _ h.n] at n4; cases n4
   have nfa:f.a≠f.bx:=λz=>by have:=h.n; rw[<- z,h.o] at this; cases this
   have e4':H4 l'=⇑(.lst ((cx f.kvs ss).map λp=>V.int p.2)):=by rw[e4]; unfold cx; simp only[Iq]; rfl
   have ln:((cx f.kvs ss).map λp=>V.int p.2).length=ss.length:=by unfold cx; simp
   show#[21,p,l',rfl,#[_,(bK\s04)<*hp],#[_,aE.of e4'],(let Jv1:Nat->St->Hp->Prop:=λi σ H5=>aB (ers f.bx H4) H5/\∃v3 v4,σ=[⇑↥f.a,⇑↥p,⇑↥l',v3,v4]/\H5 f.bx=⇑(.dK (gE f.kvs ((cx f.kvs ss).take i))); pD (b1:=true) (b2:=false) (xs:=us) (ys:=(cx f.kvs ss).map λp=>V.int p.2) Jv1 #[bK,9,s04 _ _ h.n] ?_ ?_ ?_)]
   . rintro i σ H5 hi ⟨s5,_⟩;show#[(s04.ers\s5)<*hp,aE.of (s5 _ _ (by rw[ak nl]; exact e4'))]
   . rintro i y z σ H5 b hy hz ⟨s5,v3,v4,rfl,e5⟩ hb;have hi:i<ss.length:=by have:=(HV.mp hy).1; lia
     let#[v,hv,q1,y1,rfl,hq1,hr1]:=bt hu (HU hi);rw[hy] at hv;cases hv;have hnw:(cx f.kvs ss)[i]?=⇑(ss[i].1,Rk2.wv (Rk2.fOf f.kvs) ss[i].2):=by unfold cx; rw[Hk,HU hi]; rfl
     rw[Hk,hnw] at hz;cases hz;have s6:=aB.new (o:=.tup [↥q1,.int (Rk2.wv (Rk2.fOf f.kvs) ss[i].2)]) hb;have hpl:=qX ((cx f.kvs ss).take i) f.kvs;have hnl:((cx f.kvs ss).take i).length<=1000:=by rw[IE]; lia
     show#[b,5,aG.of aH,403,?_];show#[5,f.a,f.dx,5,s6 _ _ (s5 _ _ (by rw[ak nfa]; exact s04 _ _ h.o)),13,q1,35,((s04.ers\s5).trans s6)<*hq1,13,?_];show#[{ f with kvs:=gE f.kvs ((cx f.kvs ss).take i) },some ss[i].1,5,#[s6 _ _ (s5 _ _ (by rw[ak nfa]; exact s04 _ _ h.o)),s6 _ _ e5],by show(gE _ _).length<_; lia,λH7 s7 e7=>?_];show#[((C' s5)\s6.ers).trans s7,9,by rw[Ey hnw]; exact e7]
   . rintro σ H5 ⟨s5,v3,v4,rfl,e5⟩;rw[ln,lu,Nat.min_self,show(cx f.kvs ss).take ss.length=cx f.kvs ss from Ic (by unfold cx; simp)] at e5;exact q _ (s04.ers\s5) e5
def CW:FnScope ["self"] ["self"] (aS mP):=by walk_at "s"
def oO (T:Txt K mg t):FnOk P w K mg base CX0 1 t.xL t.yZ ["self"] (Gi K t):=by
 refine T.iW.F.ok CW (λvs H Q E h=>?_) (λcdv A outer s H vs Q E hr h=>?_)
 . let#[_,_,_,_,_,_,_,_,rfl,_]:=h;rfl
 . let#[w,wt,fs,oc,sent,cn,wl,Hb,rfl,h,hl,q]:=h;show#[_,(aI (@aR _ _ _ _ (gR ay (ax 0x1 0x0 T.b_len bQ ((fD (aA 0))>=>aD)) aJ (af _))) ac),?_];show#[5,w.a,33,h.o,T.aZ.cl,T.dy,rfl,w.st,5,.inl (aE.of h.st),rfl,?_];have e:decide (V.int ((fs.map λf:Fm=>V.ref f.a).length:Int)=V.int 0)=decide (fs=[]):=decide_eq_decide.mpr #[λz=>by have:=V.int.inj z; rw[HS] at this; exact JJ.mp ∅,λz=>by rw[z]; rfl];show Q (.bl (decide _)) H;rw[e];exact q
def D8:FnScope ["self"] ["self"] (aS oE):=by walk_at "s"
def F4 (T:Txt K mg t):FnOkH P w K mg base 1 t.rM t.rO ["self"] (tJ K t):=by
 refine T.rF.F.okH D8 (λvs H Q E h=>?_) (λcdv A outer s H vs Q E hr h=>?_)
 . let#[_,_,_,_,_,_,_,_,rfl,_]:=h;rfl
 . let#[w,wt,fs,oc,sent,cn,wl,Hb,rfl,h,q]:=h;show#[_,(aI (@aR _ _ _ _ (fD (aA 0))) ac),?_];show#[5,w.a,33,h.o,T.aZ.cl,T.ie,rfl,q]
def Cr:FnScope ["self","level"] ["self","level"] (aS nj):=by walk_at "s"
def ju (T:Txt K mg t):FnOk P w K mg base CX0 1 t.xC t.yQ ["self","level"] (DT K t):=by
 refine T.fJ.F.ok Cr (λvs H Q E h=>?_) (λcdv A outer s H vs Q E hr h=>?_)
 . obtain⟨w,wt,fs,wl,fns,cs,ms,Hb,i,f,rfl,⟨oc,sent,cn,h,D,l1,l2⟩,ow,q⟩:=h;rfl
 . obtain⟨w,wt,fs,wl,fns,cs,ms,Hb,i,f,rfl,⟨oc,sent,cn,h,D,l1,l2⟩,ow,q⟩:=h;show#[_,(aI (@aR _ _ _ _ (@gy _ _ _ _ _ _ _ _ (aj (aw jD) (aA 1) (ax 0x1 0x0 T.b_len bQ ((fD (aA 0))>=>aD)) (af _)) (iY K (fD (aA 0)) (aA 1)) (iY K (fD (aA 0)) (eS fB aJ)))) ac),?_];show#[21,w.a,33,h.o,T.aZ.cl,T.fK,rfl,wt,wl,rfl,.inl (aE.of h.wts),77,?_];rcases ow.2 with e|⟨e,fs0,rfl⟩
   . have hi:=(HV.mp e).1;exact ag (Hf ∅) #[5,w.a,33,h.o,T.aZ.cl,T.fK,13,wt,wl,19,aE.of h.wts,bp e,q]
   . refine aa (λz=>by have:=Ij z; lia) #[5,w.a,33,h.o,T.aZ.cl,T.dy,13,w.st,35,aE.of h.st,?_,q];rw[Hq];exact pP _ _
def AZ:FnScope ["self","frame"] ["self","frame"] (aS nt):=by walk_at "s"
def uN (T:Txt K mg t):FnOk P w K mg base CX0 1 t.xF t.yT ["self","frame"] (Ek K t):=by
 refine T.lI.F.ok AZ (λvs H Q E h=>?_) (λcdv A outer s H vs Q E hr h=>?_)
 . obtain⟨w,wt,fs,wl,fns,cs,ms,Hb,f,s,rfl,⟨oc,sent,cn,h,D,l1,l2⟩,hf,⟨ss,hs1,hs2⟩,q⟩:=h;rfl
 . obtain⟨w,wt,fs,wl,fns,cs,ms,Hb,f,s,rfl,⟨oc,sent,cn,h,D,l1,l2⟩,hf,⟨ss,hs1,hs2⟩,q⟩:=h;show#[_,(aI (@aR _ _ _ _ (iY K (dw (bV hr.units) (fD (aA 0)) (fD (aA 1)) (λ_ _=>rfl)) (fD (aA 1)))) ac),?_];let#[kvs,e1,e2]:=D.sp;let#[l,us,a1,a2,a3]:=e2 _ _ hs1;let#[v,hv,hs]:=bt a3 hs2;show#[5,w.a,33,h.o,T.aZ.cl,T.jY,13,f.a,33,(h.fr hf).1,T.c9.cl,T.ib,25,Wk.dget_of (h.b _ _ e1) a1,5,f.a,33,(h.fr hf).1,T.c9.cl,T.gV,rfl,l,us,_,v,7,aE.of (h.b _ _ a2),bp hv,q v hs]
def C3:FnScope ["self","frame"] ["self","frame"] (aS nY):=by walk_at "s"
def qb (T:Txt K mg t):FnOk P w K mg base CX0 1 t.xA t.yO ["self","frame"] (Az K t):=by
 refine T.iR.F.ok C3 (λvs H Q E h=>?_) (λcdv A outer s H vs Q E hr h=>?_)
 . obtain⟨w,wt,fs,wl,fns,cs,ms,Hb,f,m,rfl,⟨oc,sent,cn,h,D,l1,l2⟩,hf,⟨ss,hs1,hs2⟩,q⟩:=h;rfl
 . obtain⟨w,wt,fs,wl,fns,cs,ms,Hb,f,m,rfl,⟨oc,sent,cn,h,D,l1,l2⟩,hf,⟨ss,hs1,hs2⟩,q⟩:=h;show#[_,(aI (@aR _ _ _ _ (iY K (dw (bV hr.units) (fD (aA 0)) (fD (aA 1)) (λ_ _=>rfl)) (fD (aA 1)))) ac),?_];let#[kvs,e1,e2]:=D.mp;let#[l,us,a1,a2,a3]:=e2 _ _ hs1;let#[v,hv,hs]:=bt a3 hs2;show#[5,w.a,33,h.o,T.aZ.cl,T.jX,13,f.a,33,(h.fr hf).1,T.c9.cl,T.ib,25,Wk.dget_of (h.b _ _ e1) a1,5,f.a,33,(h.fr hf).1,T.c9.cl,T.gV,rfl,l,us,_,v,7,aE.of (h.b _ _ a2),bp hv,q v hs]
def Bd:FnScope ["self","frame"] ["self","frame"] (aS mi):=by walk_at "s"
def qJ (T:Txt K mg t):FnOk P w K mg base CX0 2 t.x3 t.yJ ["self","frame"] (Fq K t):=by
 have Qh:=qb (P:=P) (w:=w) (base:=base) T;refine T.iQ.F.ok Bd (λvs H Q E h=>?_) (λcdv A outer s H vs Q E hr h=>?_)
 . let#[_,_,_,_,_,_,_,_,_,_,rfl,_]:=h;rfl
 . let#[w,wt,fs,wl,fns,cs,ms,Hb,f,m,rfl,W,hf,hm,q]:=h;show#[_,(aI (@aR _ _ _ _ (iT K (bJ (aA 0) T.aZ.cl T.iR.m Qh (hr*>#[]) T.iR.b .nil bM (aA 1>=>aD)))) ac),?_];have W2:=W;let#[oc,sent,cn,h,D,l1,l2]:=W2;show#[5,w.a,9,h.o,13,w,wt,fs,wl,fns,cs,ms,Hb,f,m,rfl,W,hf,hm,λv hv=>?_];let#[qa,c,l,us,rfl,a1,a2,a3,a4]:=hv;show#[qa,35,h.b<*a1,rfl,q c a2]
def oR:FnScope ["self","level","frame","chain"] ["self","level"] (aS hU):=by walk_at "s"
def rq (T:Txt K mg t):FnOk P w K mg base CX0 3 t.xE t.yS ["self","level"] (C6 K t):=by
 have Qa:=ju (P:=P) (w:=w) (base:=base) T;have Qi:=qJ (P:=P) (w:=w) (base:=base) T;have Qj:=oO (P:=P) (w:=w) (base:=base) T;refine T.lH.F.ok oR (λvs H Q E h=>?_) (λcdv A outer s H vs Q E hr h=>?_)
 . let#[_,_,_,_,_,_,_,_,_,rfl,_]:=h;rfl
 . skip
   refine lx ?_;intro XX;refine(let W3:TS:=_; have hW3:aO XX ((aP hU).drop 3) W3:=(~~~(@gy _ _ _ _ _ _ _ _ (aj (aw jD) (aw g9<$>aA 1<*>(fD (aA 2))) (ax 0x1 0x0 T.b_len bQ (aA 3>=>aD)) (af _)) (iX K (aA 3) (aw g9<$>aA 1<*>(fD (aA 2)))) eE)); ?_);refine(let W2:TS:=_; have hW2:aO XX ((aP hU).drop 2) W2:=(aI (pS 3 oR.nd (bJ (aA 0) T.aZ.cl T.iQ.m Qi (hr*>#[]) T.iQ.b .nil bM (aA 2>=>aD))) hW3); ?_);refine(let W1:TS:=_; have hW1:aO XX ((aP hU).drop 1) W1:=(aI (pS 2 oR.nd (bJ (aA 0) T.aZ.cl T.fJ.m Qa (hr*>#[]) T.fJ.b .nil bM (aA 1>=>aD))) hW2); ?_);let#[w,wt,fs,wl,fns,cs,ms,Hb,z,rfl,W,q]:=h;show#[_,(aI (ae (@PW.pt _ _ _ (dF (aj (aw jD) (aA 1) aJ (af _)) (eu (cL (gk (aA 0) T.aZ.cl T.iW.m Qj (hr*>#[]) T.iW.b .nil bM))))) (~~~eE) ac) hW1),?_];have W2:=W;let#[oc,sent,cn,h,D,l1,l2]:=W2;rcases q with⟨i,f,m,p,pl,rfl,L,hm,q⟩|⟨hz,q⟩
   . have hf:=L.ow.1;have fi:=L.fi;have ei:(i:Int) - (f.first:Int)=((i - f.first:Nat):Int):=by lia
     show#[333,aa (λz=>by have:=Ij z; lia) ?_];show#[5,w.a,9,h.o,rfl,w,wt,fs,oc,sent,cn,wl,Hb,rfl,h,l2,5,aa (λz=>by have:=Ij z; rw[this] at hf; cases hf) ?_];show#[5,w.a,9,h.o,13,w,wt,fs,wl,fns,cs,ms,Hb,i,f,rfl,W,L.ow,?_];show#[5,w.a,9,h.o,13,w,wt,fs,wl,fns,cs,ms,Hb,f,m,rfl,W,hf,L.ma,λc hc=>?_];let#[us,hu1,hu2]:=hc;let#[v,hv,hs]:=bt hu2 L.at_;have lu:=Rk2.Ps.len hu2;have hlt:=(HV.mp hv).1;show#[21,f.a,33,(h.fr hf).1,T.c9.cl,T.eQ,205,c,us,rfl,.inr (h.b<*hu1),77,ag (Hf (by rw[ei]; lia)) ?_];show#[85,f.a,33,(h.fr hf).1,T.c9.cl,T.eQ,51,c,us,_,v,7,h.b<*hu1,by rw[ei]; exact bp hv,q v hs]
   . by_cases z0:z<0
     . show#[333,ag (Hf z0) q]
     show#[333,aa (λz=>z0 (Ij z)) ?_];by_cases f0:fs=[]
     . show#[5,w.a,9,h.o,rfl,w,wt,fs,oc,sent,cn,wl,Hb,rfl,h,l2,5,ag (Hf f0) q]
     show#[5,w.a,9,h.o,rfl,w,wt,fs,oc,sent,cn,wl,Hb,rfl,h,l2,5,aa (λz=>f0 (Ij z)) ?_];let#[i,f,m,rfl,ow,ma,fi,hc,hm]:=(hz.resolve_left z0).resolve_left f0;have hf:=ow.1;show#[5,w.a,9,h.o,13,w,wt,fs,wl,fns,cs,ms,Hb,i,f,rfl,W,ow,?_];show#[5,w.a,9,h.o,13,w,wt,fs,wl,fns,cs,ms,Hb,f,m,rfl,W,hf,ma,λc hc2=>?_];let#[us,hu1,hu2]:=hc2;have lu:=Rk2.Ps.len hu2;show#[21,f.a,33,(h.fr hf).1,T.c9.cl,T.eQ,205,c,us,rfl,.inr (h.b<*hu1),77,aa (λz=>by have:=Ij z; lia) q]
def Dv:FnScope ["self","level"] ["self","level"] (aS nS):=by walk_at "s"
def oP (T:Txt K mg t):FnOk P w K mg base CX0 4 t.xO t.yf ["self","level"] (A6 K t):=by
 have Qs:=rq (P:=P) (w:=w) (base:=base) T;refine T.iZ.F.ok Dv (λvs H Q E h=>?_) (λcdv A outer s H vs Q E hr h=>?_)
 . let#[_,_,_,_,_,_,_,_,_,_,_,_,_,_,rfl,_]:=h;rfl
 . let#[w,wt,fs,wl,fns,cs,ms,Hb,i,f,m,p,pl,F,rfl,W,L,hm,hF,hp,hn,q]:=h;show#[_,(aI (@aR _ _ _ _ (qO (bV hr.units) (fD (fD (aA 0))) (iT K (bJ (aA 0) T.aZ.cl T.lH.m Qs (hr*>#[]) T.lH.b .nil bM (aA 1>=>aD))) (bA aD) #[31])) ac),?_];have W0:=W;let#[oc,sent,cn,h,D,l1,l2]:=W0;have hf:=L.ow.1;have fi:=L.fi;have ei:(i:Int) - (f.first:Int)=((i - f.first:Nat):Int):=by lia
   obtain⟨nl,⟨dx,fz,d,kvs,g1,g2,g3,g4⟩,g5⟩:=Wk.fl_names D.fl hF;show#[5,w.a,33,h.o,T.aZ.cl,T.ic,rfl,w.fl,t.bj,dx,9,h.b _ _ g1,T.dM.cl,T.ig,g2,d,rfl,.inl #[_,Rd.of (h.b _ _ g3)],5,w.a,9,h.o,13,w,wt,fs,wl,fns,cs,ms,Hb,i,rfl,W,.inl #[i,f,m,p,pl,rfl,L,hm,λv hv=>?_]];let#[qa,rfl,hq]:=hv;show#[qa,35,h.b<*hq,rfl,cH,λb hb=>#[_,Wk.dget_of ((aB.new hb) _ _ (h.b _ _ g3)) (by rw[hp]; exact g4),q nl _ (aB.new hb) g5 ((aB.new hb) _ _ (h.b _ _ g5))]]
def Ch:FnScope ["self","level"] ["self","level"] (aS nG):=by walk_at "s"
def qe (T:Txt K mg t):FnOk P w K mg base (bv P w) 4 t.xJ t.yX ["self","level"] (EO K t):=by
 have Qs:=rq (P:=P) (w:=w) (base:=base) T;refine T.iV.F.okE Ch (λvs H Q E h=>?_) (λcdv A outer s H vs Q E hr h=>?_)
 . let#[_,_,_,_,_,_,_,_,_,rfl,_]:=h;rfl
 . let#[w,wt,fs,wl,fns,cs,ms,Hb,z,rfl,W,q]:=h;show#[_,(aI (ae (eF (i' (bJ (aA 0) T.aZ.cl T.lH.m Qs (hr*>#[]) T.lH.b .nil bM (aA 1>=>aD)))) (@aK _ _ _ (qy T.x_nN T.i0_nN rfl oV)) ac) ac),?_];have W0:=W;let#[oc,sent,cn,h,D,l1,l2]:=W0;show#[5,w.a,9,h.o,13,w,wt,fs,wl,fns,cs,ms,Hb,z,rfl,W,?_];rcases q with⟨i,f,m,p,pl,rfl,L,hm,q⟩|⟨hz,q⟩
   . refine .inl #[i,f,m,p,pl,rfl,L,hm,λv hv=>?_];let#[qa,rfl,hq]:=hv;show#[5,eW q]
   . exact .inr #[hz,5,kr (q H (aB.refl _))]
def HB:FnScope ["self","level","name"] ["self","level","name"] (aS nM):=by walk_at "s"
def uV (T:Txt K mg t):FnOk P w K mg base (bv P w) 5 t.xK t.yY ["self","level","name"] (zl K t):=by
 have Qk:=qe (P:=P) (w:=w) (base:=base) T;have Ql:=oP (P:=P) (w:=w) (base:=base) T;refine T.lJ.F.okE HB (λvs H Q E h=>?_) (λcdv A outer s H vs Q E hr h=>?_)
 . let#[_,_,_,_,_,_,_,_,_,_,rfl,_]:=h;rfl
 . let#[w,wt,fs,wl,fns,cs,ms,Hb,z,n,rfl,W,q]:=h;show#[_,(aI (@bS _ _ _ _ (bJ (aA 0) T.aZ.cl T.iV.m Qk (hr*>#[]) T.iV.b .nil kA (aA 1>=>aD)) 0x0) (@aK _ _ _ (ae (aj vY (aA 2) (bJ (aA 0) T.aZ.cl T.iZ.m Ql (hr*>#[]) T.iZ.b .nil bM (aA 1>=>aD)) (by with_unfolding_all rfl)) (@aK _ _ _ (qy T.x_nN T.i0_nN rfl oV)) ac))),?_];have W0:=W;let#[oc,sent,cn,h,D,l1,l2]:=W0;show#[5,w.a,9,h.o,13,w,wt,fs,wl,fns,cs,ms,Hb,z,rfl,W,?_];rcases q with⟨i,f,m,p,pl,F,rfl,L,q1,q2⟩|⟨hz,q⟩
   . refine .inl #[i,f,m,p,pl,rfl,L.lv,L.c,?_];show#[21,w.a,9,h.o,13,w,wt,fs,wl,fns,cs,ms,Hb,i,f,m,p,pl,F,rfl,W,L.lv,L.c,L.fn,L.nm,Hu L.n1 #[],λnl H1 s1 _ e1=>#[nl,5,.inl (aE.of e1),rfl,pN _,5,?_]];by_cases hin:n∈F2.nms F
     . exact aa (by rw[He rfl,sQ hin]; decide) (q1 hin H1 s1)
     . exact ag (by rw[He rfl,ur hin]; rfl) (q2 hin H1 s1)
   . exact .inr #[hz,q]
def qZ:FnScope ["self","level","name","frame","views"] ["self","level","name"] (aS iA):=by walk_at "s"
def oj (T:Txt K mg t):FnOk P w K mg base (bv P w) 6 t.xD t.yR ["self","level","name"] (zm K t):=by
 have Qt:=uV (P:=P) (w:=w) (base:=base) T;have Qa:=ju (P:=P) (w:=w) (base:=base) T;have Qh:=qb (P:=P) (w:=w) (base:=base) T;have Ql:=oP (P:=P) (w:=w) (base:=base) T;refine T.iU.F.okE qZ (λvs H Q E h=>?_) (λcdv A outer s H vs Q E hr h=>?_)
 . let#[_,_,_,_,_,_,_,_,_,_,rfl,_]:=h;rfl
 . skip
   refine lx ?_;intro XX;refine(let W3:TS:=_; have hW3:aO XX ((aP iA).drop 3) W3:=(~~~(iX K (iY K (aA 4) (aw g9<$>aA 1<*>(fD (aA 3)))) (cQ Ht PySem.F.slot_list_index PySem.F.type_list_index CC (bJ (aA 0) T.aZ.cl T.iZ.m Ql (hr*>#[]) T.iZ.b .nil bM (aA 1>=>aD)) (aA 2>=>aD)))); ?_);refine(let W2:TS:=_; have hW2:aO XX ((aP iA).drop 2) W2:=(aI (pS 4 qZ.nd (iT K (bJ (aA 0) T.aZ.cl T.iR.m Qh (hr*>#[]) T.iR.b .nil bM (aA 3>=>aD)))) hW3); ?_);refine(let W1:TS:=_; have hW1:aO XX ((aP iA).drop 1) W1:=(aI (pS 3 qZ.nd (bJ (aA 0) T.aZ.cl T.fJ.m Qa (hr*>#[]) T.fJ.b .nil bM (aA 1>=>aD))) hW2); ?_);let#[w,wt,fs,wl,fns,cs,ms,Hb,z,n,rfl,W,q]:=h;show#[_,(aI (@bS _ _ _ _ (bJ (aA 0) T.aZ.cl T.lJ.m Qt (hr*>#[]) T.lJ.b .nil kA (aA 1>=>aA 2>=>aD)) 0x0) hW1),?_];have W0:=W;let#[oc,sent,cn,h,D,l1,l2]:=W0;show#[5,w.a,9,h.o,53,w,wt,fs,wl,fns,cs,ms,Hb,z,n,rfl,W,?_];rcases q with⟨i,f,m,p,pl,F,rfl,LF,q1,q2⟩|⟨hz,q⟩
   . refine .inl #[i,f,m,p,pl,F,rfl,LF,λhin H1 s1=>?_,q2];have L:=LF.lv;have hf:=L.ow.1;have fi:=L.fi;have ei:(i:Int) - (f.first:Int)=((i - f.first:Nat):Int):=by lia
     obtain⟨o,ho⟩:∃o,pl[(F2.nms F).idxOf n]?=⇑o:=#[_,HU (by rw[LF.pn]; exact J3 hin)]
     have q:=q1 hin o ho;have W1:=W.keep s1;have W0:=W1;let#[oc1,sent1,cn1,h1,D1,_]:=W0;show#[5,w.a,9,h1.o,13,w,wt,fs,wl,fns,cs,ms,Hb,i,f,rfl,W1,L.ow,?_];show#[5,w.a,9,h1.o,13,w,wt,fs,wl,fns,cs,ms,Hb,f,m,rfl,W1,hf,L.ma,λv hv=>?_];let#[qa,c,l,us,rfl,a1,a2,a3,a4]:=hv;show#[qa,35,h1.b<*a1,rfl,?_];let#[v1,hv1,q2,us2,rfl,b1,b2]:=bt a4 L.pl_;let#[v2,hv2,hP]:=bt b2 ho;have hlt:=J3 hin;show#[85,f.a,33,(h1.fr hf).1,T.c9.cl,T.eQ,51,l,us,19,aE.of (h1.b _ _ a3),(by rw[ei]; exact bp hv1),5,w.a,9,h1.o,13,w,wt,fs,wl,fns,cs,ms,Hb,i,f,m,p,pl,F,rfl,W1,L,LF.c,LF.fn,LF.nm,Hu LF.n1 #[],λnl H2 s2 _ e2=>?_];show#[.inl #[6,aE.of e2],5,nl,4,(F2.nms F).idxOf n,7,aE.of e2,rfl,pN _,by have:=LF.n1; lia,Cj hin,GR,q2,us2,19,(h1.b\s2)<*b1,bp hv2,q v2 H2 (s1\s2) hP]
   . exact .inr #[hz,q]
def wA:FnScope ["self","level","name","found"] ["self","level","name"] (aS nB):=by walk_at "s"
def Dp (T:Txt K mg t):FnOk P w K mg base CX0 12 t.xG t.yU ["self","level","name"] (Fo K t):=by
 have Qd:FnOk P w K mg base CX0 11 t.lO t.lR ["one","boxes"] (nA K 10):=oQ T 10;have Qm:=oj (P:=P) (w:=w) (base:=base) T;have Qa:=ju (P:=P) (w:=w) (base:=base) T;refine T.rD.F.ok wA (λvs H Q E h=>?_) (λcdv A outer s H vs Q E hr h=>?_)
 . let#[_,_,_,_,_,_,_,_,_,_,_,_,_,_,_,_,rfl,_]:=h;rfl
 . let#[w,wt,fs,wl,fns,cs,ms,Hb,i,f,m,p,pl,F,n,o,rfl,W,LF,hin,ho,q]:=h;show#[_,(aI (pS 3 wA.nd (bJ (aA 0) T.aZ.cl T.iU.m Qm (hr*>#[]) T.iU.b .nil gM (aA 1>=>aA 2>=>aD))) (~~~(@gy _ _ _ _ _ _ _ _ (eF (i' (aA 3))) eE (cD T.worth Qd hr (aA 3>=>(fD (bJ (aA 0) T.aZ.cl T.fJ.m Qa (hr*>#[]) T.fJ.b .nil bM (aA 1>=>aD)))>=>aD))))),?_];have W0:=W;let#[oc,sent,cn,h,D,l1,l2]:=W0;have hf:=LF.lv.ow.1;show#[5,w.a,9,h.o,53,w,wt,fs,wl,fns,cs,ms,Hb,i,n,rfl,W,.inl #[i,f,m,p,pl,F,rfl,LF,λ_ o2 ho2 v H1 s1 hv=>?_,λhno=>absurd hin hno]];rw[ho] at ho2;cases ho2;have W1:=W.keep s1;have W0:=W1;let#[oc1,sent1,cn1,h1,D1,_]:=W0;cases o with
   | none =>
     obtain rfl:v=.non:=hv;show#[21,kr (q H1 s1)]
   | some u =>
     have hv:Rk2.RAt Hb u v:=hv;have ok:=LF.ok u (IA ho);show#[21,aa (λz=>mH hv (Ij z)) ?_];show#[21,w.a,9,h1.o,13,w,wt,fs,wl,fns,cs,ms,Hb,i,f,rfl,W1,LF.lv.ow,f.a,33,(h1.fr hf).1,T.c9.cl,T.gs,rfl,u,v,f.bx,f.kvs,rfl,ok.1,hv*>h1.b,(h1.fr hf).2,LF.dv,ok.2,q H1 s1]
def FB:FnScope ["self","level","name"] ["self","level","name"] (aS oK):=by walk_at "s"
def rn (T:Txt K mg t):FnOk P w K mg base (bv P w) 13 t.xQ t.yh ["self","level","name"] (Eu K t):=by
 have Qt:=uV (P:=P) (w:=w) (base:=base) T;have QM:=Dp (P:=P) (w:=w) (base:=base) T;refine T.lK.F.okE FB (λvs H Q E h=>?_) (λcdv A outer s H vs Q E hr h=>?_)
 . let#[_,_,_,_,_,_,_,_,_,_,rfl,_]:=h;rfl
 . let#[w,wt,fs,wl,fns,cs,ms,Hb,z,n,rfl,W,q]:=h;show#[_,(aI (@bS _ _ _ _ (bJ (aA 0) T.aZ.cl T.lJ.m Qt (hr*>#[]) T.lJ.b .nil kA (aA 1>=>aA 2>=>aD)) 0x0) (~~~(bJ (aA 0) T.aZ.cl T.rD.m QM (hr*>#[]) T.rD.b .nil bM (aA 1>=>aA 2>=>aD)))),?_];have W0:=W;let#[oc,sent,cn,h,D,l1,l2]:=W0;show#[5,w.a,9,h.o,53,w,wt,fs,wl,fns,cs,ms,Hb,z,n,rfl,W,?_];rcases q with⟨i,f,m,p,pl,F,rfl,LF,q1,q2⟩|⟨hz,q⟩
   . refine .inl #[i,f,m,p,pl,F,rfl,LF,λhin H1 s1=>?_,q2];obtain⟨o,ho⟩:∃o,pl[(F2.nms F).idxOf n]?=⇑o:=#[_,HU (by rw[LF.pn]; exact J3 hin)]
     have W1:=W.keep s1;have W0:=W1;let#[oc1,sent1,cn1,h1,D1,_]:=W0;show#[5,w.a,9,h1.o,53,w,wt,fs,wl,fns,cs,ms,Hb,i,f,m,p,pl,F,n,o,rfl,W1,LF,hin,ho,λH2 s2=>q1 hin o ho H2 (s1\s2)]
   . exact .inr #[hz,q]
def gf:FnScope ["self","level","frame","chain","views","found","k","name","place"] ["self","level"] (aS gL):=by walk_at "s"
def u6 (T:Txt K mg t):FnOk P w K mg base (bv P w) 5 t.xB t.yP ["self","level"] (BG K t):=by
 have Qk:=qe (P:=P) (w:=w) (base:=base) T;have Qa:=ju (P:=P) (w:=w) (base:=base) T;have Qh:=qb (P:=P) (w:=w) (base:=base) T;have Ql:=oP (P:=P) (w:=w) (base:=base) T;refine T.iS.F.okE gf (λvs H Q E h=>?_) (λcdv A outer s H vs Q E hr h=>?_)
 . let#[_,_,_,_,_,_,_,_,_,rfl,_]:=h;rfl
 . skip
   refine lx ?_;intro XX;refine(let W5:TS:=_; have hW5:aO XX ((aP gL).drop 5) W5:=(~~~(aA 5)); ?_);refine(let W4:TS:=_; have hW4:aO XX ((aP gL).drop 4) W4:=(aI (bq vK rfl (ci rfl T.b_range ((ax 0x1 0x0 T.b_len bQ (aA 3>=>aD))>=>aD)) (aY (i:=6) gf.nd rfl 0x5) (@aK _ _ _ (bq vK rfl (ql false true rfl T.b_zip ((bJ (aA 0) T.aZ.cl T.iZ.m Ql (hr*>#[]) T.iZ.b .nil bM ((aw bU<$>(fD (aA 2))<*>aA 6)>=>aD))>=>(iY K (aA 4) (aA 6))>=>aD)) (ck rfl (bG (aY (i:=7) gf.nd rfl 0x5) (bG (aY (i:=8) gf.nd rfl 0x5) cV))) (@aK _ _ _ (@bS _ _ _ _ (cQ Ht IK IL fY (aA 5) ((bA ((aw bU<$>(fD (aA 2))<*>aA 6)>=>aA 7>=>aA 8>=>aD))>=>aD)) 0x0))))) hW5); ?_);refine(let W3:TS:=_; have hW3:aO XX ((aP gL).drop 3) W3:=(aI (pS 5 gf.nd (bE aD)) hW4); ?_);refine(let W2:TS:=_; have hW2:aO XX ((aP gL).drop 2) W2:=(aI (gS (bJ (aA 0) T.aZ.cl T.iR.m Qh (hr*>#[]) T.iR.b .nil bM (aA 2>=>aD)) (ck rfl (bG (aY (i:=3) gf.nd rfl 0x5) (bG (aY (i:=4) gf.nd rfl 0x5) cV)))) hW3); ?_);refine(let W1:TS:=_; have hW1:aO XX ((aP gL).drop 1) W1:=(aI (pS 2 gf.nd (bJ (aA 0) T.aZ.cl T.fJ.m Qa (hr*>#[]) T.fJ.b .nil bM (aA 1>=>aD))) hW2); ?_);let#[w,wt,fs,wl,fns,cs,ms,Hb,z,rfl,W,q]:=h;show#[_,(aI (@bS _ _ _ _ (bJ (aA 0) T.aZ.cl T.iV.m Qk (hr*>#[]) T.iV.b .nil kA (aA 1>=>aD)) 0x0) hW1),?_];have W0:=W;let#[oc,sent,cn,h,D,l1,l2]:=W0;show#[5,w.a,9,h.o,13,w,wt,fs,wl,fns,cs,ms,Hb,z,rfl,W,?_];rcases q with⟨i,f,m,p,pl,nm,rfl,L,hm,lvs,lnm,hk,q⟩|⟨hz,q⟩
   . refine .inl #[i,f,m,p,pl,rfl,L,hm,?_];have hf:=L.ow.1;show#[5,w.a,9,h.o,13,w,wt,fs,wl,fns,cs,ms,Hb,i,f,rfl,W,L.ow,?_];show#[5,w.a,9,h.o,13,w,wt,fs,wl,fns,cs,ms,Hb,f,m,rfl,W,hf,L.ma,λv hv=>?_];obtain⟨qa,c,l,vs,rfl,a1,⟨us,a2,a3⟩,a4,a5⟩:=hv;show#[qa,5,h.b<*a1,403,?_];show#[cH,λfl hfl=>?_];have lu:=Rk2.Ps.len a3;have s0:=aB.new (o:=.lst []) hfl;have hbn:=h.b.free hfl;show#[5,c,us,rfl,.inr ((h.b\s0)<*a2),5,∅,∅,(let Jv1:Nat->St->Hp->Prop:=λj σ H2=>aB H H2/\∃v6 v7 v8 xs,σ=[⇑↥w.a,⇑(.int i),⇑↥f.a,⇑↥c,⇑↥l,⇑↥fl,v6,v7,v8]/\H2 fl=⇑(.lst xs)/\Rk2.Ps (eK K (ers fl H2)) xs (dX f.first m nm j)/\xs.length<=100 * j; eR (lo:=0) (n:=us.length) Jv1 #[s0,8,[],rfl,aH,trivial,HY _] ?_ ?_)]
     . rintro j σ H2 hj ⟨s2,v6,v7,v8,xs,rfl,e2,p2,n2⟩;obtain⟨p1,hp1⟩:∃p1,m.ch[j]?=⇑p1:=#[_,HU ∅]
       obtain⟨pl1,hpl1⟩:∃pl1,m.vs[j]?=⇑pl1:=#[_,HU ∅]
       let#[F,LF,hnm]:=hk j p1 pl1 hp1 hpl1;let#[v1,hv1,q2,us2,rfl,b1,b2]:=bt a5 hpl1;have lu2:=Rk2.Ps.len b2;have pn:=LF.pn;have n1:=LF.n1;have W2:=W.keep s2;have h2:=h.keep s2;have hR:dh f.first m nm j=((F2.nms F).zip pl1).map λx=>(f.first+j,x.1,x.2):=by unfold dh; rw[jK hnm,jK hpl1]
       have hN:dX f.first m nm (j+1)=dX f.first m nm j++dh f.first m nm j:=by unfold dX; rw[Ju,IZ]; simp
       rw[Io];show#[5,w.a,9,h2.o,13,f.a,33,(h2.fr hf).1,T.c9.cl,T.eQ,211,w,wt,fs,wl,fns,cs,ms,Hb,f.first+j,f,m,p1,pl1,F,rfl,W2,LF.lv,LF.c,LF.fn,LF.nm,Hu n1 #[],λnl H3 s3 eb e3=>?_];have s03:=s2\s3;have h3:=h2.keep s3;have nnl:nl≠fl:=λy=>by rw[y,hbn] at eb; cases eb
       show#[21,l,vs,19,aE.of (h3.b _ _ a4),bp hv1,nl,q2,rfl,#[_,aE.of e3],#[_,h3.b<*b1],(let Jv2:Nat->St->Hp->Prop:=λn σ H4=>aB (ers fl H3) H4/\∃v7 v8 xs,σ=[⇑↥w.a,⇑(.int i),⇑↥f.a,⇑↥c,⇑↥l,⇑↥fl,⇑(.int j),v7,v8]/\H4 fl=⇑(.lst xs)/\Rk2.Ps (eK K (ers fl H4)) xs (dX f.first m nm j++(dh f.first m nm j).take n)/\xs.length<=100 * j+n; pD (b1:=false) (b2:=true) (xs:=(F2.nms F).map V.str) (ys:=us2) Jv2 #[bK,4,xs,rfl,s3 _ _ e2,by rw[List.take_zero,IQ]; exact Rk2.Ps.imp (λ_ _ z=>z*>s3.ers) p2,n2] ?_ ?_ ?_)]
       . rintro n σ H4 hn ⟨s4,_⟩;show#[aE.of (s4 _ _ (by rw[ak nnl]; exact e3)),((cw (h.b\s03) hbn).trans s4)<*b1]
       . rintro n y z σ H4 b hy hz ⟨s4,v7,v8,xs,rfl,e4,p4,n4⟩ hb;have hn1:n<(F2.nms F).length:=by have:=(HV.mp hy).1; rwa [HS] at this
         rw[Hk,HU hn1] at hy;cases hy;let#[v2,hv2,hP]:=bt b2 (HU (i:=n) ∅);rw[hz] at hv2;cases hv2;have s5:=aB.new (o:=.tup [.str (F2.nms F)[n],z]) hb;have e5:=aG.of (K:=K) (aH (H:=H4) (a:=b) (o:=.tup [.str (F2.nms F)[n],z]));generalize upd H4 b (.tup [.str (F2.nms F)[n],z])=H5 at s5 e5 ⊢;have s4H:aB H H5:=((cw s03 hfl)\s4).trans s5;have h5:=h.keep s4H;show#[b,5,e5,403,?_];show#[5,.inl #[6,aE.of (s5 _ _ e4)],5,f.a,33,(h5.fr hf).1,T.c9.cl,T.eQ,3381,dY,λb6 h6=>?_];have s6:=aB.new (o:=.tup [.int ((f.first:Int)+(j:Int)),.str (F2.nms F)[n],z]) h6;have nb:b6≠fl:=λy=>by rw[y,s5 _ _ e4] at h6; cases h6
         have s46:=s5\s6;have hx:(dh f.first m nm j)[n]?=⇑(f.first+j,(F2.nms F)[n],pl1[n]'∅):=by rw[hR,Hk,HU (by rw[Jv]; lia),List.getElem_zip];rfl
         have sP:aB Hb (ers fl (upd H5 b6 (.tup [.int ((f.first:Int)+(j:Int)),.str (F2.nms F)[n],z]))):=cw ((h.b\s4H).trans s6) hbn;show#[fl,xs,11,s46 _ _ e4,Rk2.lt_line' ∅,(s4\s46).upd iD,17,aH,?_,by rw[HZ]; show xs.length+1<=_; lia];rw[fW,IM,hx,<- Ib];exact Rk2.Ps.app (Rk2.Ps.imp (λ_ _ z=>z*>s46.ers) p4) #[#[b6,z,rfl,aG.of (by rw[ak nb]; exact aH),bd.mono sP hP],trivial]
       . rintro σ H4 ⟨s4,v7,v8,xs,rfl,e4,p4,n4⟩;rw[HS,lu2,pn,Nat.min_self] at p4 n4;show#[(cw s03 hfl)\s4,8,xs,rfl,e4,?_,∅];rw[hN];rw[Ic (by rw[hR,HS,Jv]; lia)] at p4;exact p4
     . rintro σ H2 ⟨s2,v6,v7,v8,xs,rfl,e2,p2,n2⟩;rw[lu] at p2;show#[5,q fl xs H2 s2 hfl e2 p2]
   . exact .inr #[hz,q]
def BD:FnScope ["self","level","box","number"] ["self","level","box","number"] (aS mY):=by walk_at "s"
def vM (T:Txt K mg t):FnOk P w K mg base (bv P w) 5 t.x5 t.yL ["self","level","box","number"] (GW K t):=by
 have Qk:=qe (P:=P) (w:=w) (base:=base) T;have Qg:=qP (P:=P) (w:=w) (base:=base) T;have Qa:=ju (P:=P) (w:=w) (base:=base) T;refine T.lF.F.okE BD (λvs H Q E h=>?_) (λcdv A outer s H vs Q E hr h=>?_)
 . let#[_,_,_,_,_,_,_,_,_,_,_,rfl,_]:=h;rfl
 . let#[w,wt,fs,wl,fns,cs,ms,Hb,z,b,v,rfl,W,q]:=h;show#[_,(aI (@bS _ _ _ _ (bJ (aA 0) T.aZ.cl T.iV.m Qk (hr*>#[]) T.iV.b .nil kA (aA 1>=>aD)) 0x0) (aI (@bS _ _ _ _ (bJ (bJ (aA 0) T.aZ.cl T.fJ.m Qa (hr*>#[]) T.fJ.b .nil bM (aA 1>=>aD)) T.c9.cl T.iO.m Qg (hr*>#[]) T.iO.b .nil bM (aA 2>=>aA 3>=>aD)) 0x0) (~~~bW))),?_];have W0:=W;let#[oc,sent,cn,h,D,l1,l2]:=W0;show#[5,w.a,9,h.o,13,w,wt,fs,wl,fns,cs,ms,Hb,z,rfl,W,?_];rcases q with⟨i,f,m,p,pl,rfl,L,hm,hk,q⟩|⟨hz,q⟩
   . refine .inl #[i,f,m,p,pl,rfl,L,hm,?_];have hf:=L.ow.1;show#[5,w.a,9,h.o,13,w,wt,fs,wl,fns,cs,ms,Hb,i,f,rfl,W,L.ow,f.a,f.dx,5,(h.fr hf).1,53,f,⇑b,v,rfl,#[(h.fr hf).1,(h.fr hf).2],hk,λH1 s1 e1=>?_];exact q H1 s1 e1
   . exact .inr #[hz,q]
def oY:FnScope ["self","found","frame"] ["self"] (aS kB):=by walk_at "s"
def Ew (T:Txt K mg t):FnOk P w K mg base CX0 3 t.xM t.yd ["self"] (Ee K t):=by
 have Qi:=qJ (P:=P) (w:=w) (base:=base) T;refine T.rG.F.ok oY (λvs H Q E h=>?_) (λcdv A outer s H vs Q E hr h=>?_)
 . let#[_,_,_,_,_,_,_,_,_,rfl,_]:=h;rfl
 . skip
   refine lx ?_;intro XX;refine(let W2:TS:=_; have hW2:aO XX ((aP kB).drop 2) W2:=(~~~(aA 1)); ?_);let#[w,wt,fs,wl,fns,cs,ms,Hb,mf,rfl,W,lm,hm,q]:=h;show#[_,(aI (pS 1 oY.nd (bE aD)) (aI (bq PassesOwn.never rfl (d6 (fD (aA 0))) (aY (i:=2) oY.nd rfl 0x5) (@aK _ _ _ (@bS _ _ _ _ (cQ Ht JF JG sL (aA 1) ((bJ (aA 0) T.aZ.cl T.iQ.m Qi (hr*>#[]) T.iQ.b .nil bM (aA 2>=>aD))>=>aD)) 0x0))) hW2)),?_];have W0:=W;let#[oc,sent,cn,h,D,l1,l2]:=W0;show#[cH,λl hl=>?_];have s0:=aB.new (o:=.lst []) hl;show#[5,w.a,33,s0 _ _ h.o,T.aZ.cl,T.dy,rfl,w.st,rfl,#[_,aE.of (s0 _ _ h.st)],(let Jv1:Nat->St->Hp->Prop:=λi σ H2=>aB H H2/\∃v2 us,σ=[⇑↥w.a,⇑↥l,v2]/\H2 l=⇑(.lst us)/\us.length<=100 * i/\Rk2.Ps (dC K Hb) us ((mf.take i).flatMap (·.ch)); gB (xs:=fs.map λf:Fm=>V.ref f.a) Jv1 #[s0,9,aH,HY _,trivial] ?_ ?_ ?_)]
   . rintro i σ H2 hi ⟨s2,_⟩;exact aE.of (s2 _ _ h.st)
   . rintro i x σ H2 hx ⟨s2,v2,us,rfl,e2,n2,p2⟩;have hi:i<fs.length:=by have:=(HV.mp hx).1; rwa [HS] at this
     rw[Hk,HU hi] at hx;cases hx;obtain⟨m,em⟩:∃m,mf[i]?=⇑m:=#[mf[i],HU ∅]
     have hm1:=hm i _ _ (HU hi) em;show#[5,.inl #[6,aE.of e2],5,w.a,9,s2 _ _ h.o,13,w,wt,fs,wl,fns,cs,ms,Hb,fs[i],m,rfl,W.keep s2,IT hi,hm1.1,λc z222_=>?_];let#[zs,hc1,hc2]:=z222_;have lz:=Rk2.Ps.len hc2;have:=hm1.2;show#[l,c,us,zs,7,e2,(h.b\s2)<*hc1,fC ∅,s2.upd hl,9,aH,by rw[HZ]; lia,?_];rw[IM,em,IZ];exact Rk2.Ps.app p2 ↑hc2
   . rintro σ H2 ⟨s2,v2,us,rfl,e2,n2,p2⟩;rw[HS,<- lm,IP] at p2;show#[5,q l us H2 s2 hl e2 p2]
def DO:FnScope ["self","function","args"] ["self","function","args"] (aS lj):=by walk_at "s"
def uo (T:Txt K mg t):FnOk P w K mg base CX0 3 t.wy t.yI ["self","function","args"] (Fe K t):=by
 have QN:=A7 (P:=P) (w:=w) (base:=base) T;refine T.lE.F.ok DO (λvs H Q E h=>?_) (λcdv A outer s H vs Q E hr h=>?_)
 . let#[_,_,_,_,_,_,_,_,_,_,_,_,_,_,rfl,_]:=h;rfl
 . let#[w,wt,fs,wl,fns,cs,ms,Hb,oc,sent,cn,g,ar,ys,rfl,h,l1,l2,ha,hy,q]:=h;show#[_,(aI (@bS _ _ _ _ (cQ Ht IK IL fY (fD (aA 0)) ((pY T.c9 T.wn QN (hr*>#[]) (aA 1>=>aA 2>=>(ax 0x1 0x0 T.b_len bQ ((fD (aA 0))>=>aD))>=>aD))>=>aD)) 0x0) ac),?_];show#[5,w.a,33,h.o,T.aZ.cl,T.dy,rfl,.inl #[6,aE.of h.st],85,w.a,33,h.o,T.aZ.cl,T.fK,rfl,wt,wl,rfl,.inl (aE.of h.wts),λx dx hx hdx ne=>?_];have sA:aB H (upd (upd H dx (.own x)) x (.ins t.dZ dx [])):=(aB.new hdx)\(aB.new (by rw[aM (Ne.symm ne)]; exact hx));show#[x,dx,ar,g,ys,wl.length,rfl,aH,(cw sA hx).seq ha,hy,λbx H' nbx s' fr=>#[rfl,?_]];have sB:aB H H':=(cw sA hx)\s';have hbx:H bx=none:=sA.free nbx;have nxb:x≠bx:=λz=>by rw[<- z,aH] at nbx; cases nbx
   let#[Hb',hC,sC]:=bB.push (f:=#[x,dx,bx,g,(0),bX ys,wl.length]) h sB hx hbx nxb fr.o fr.n;show#[w.st,19,sB _ _ h.st,Rk2.lt_line' (by rw[HS]; lia),?_];rw[Hq] at hC;exact q x dx bx Hb' _ sC hC
def mL:FnScope ["self","number","frame","sets","act"] ["self","number"] (aS kZ):=by walk_at "s"
def Dq (T:Txt K mg t):FnOk P w K mg base CX0 14 t.x6 t.yM ["self","number"] (DP K t):=by
 have Qu:=uN (P:=P) (w:=w) (base:=base) T;have Qv:=sf (P:=P) (w:=w) (base:=base) T;have Qg:=qP (P:=P) (w:=w) (base:=base) T;refine T.rC.F.ok mL (λvs H Q E h=>?_) (λcdv A outer s H vs Q E hr h=>?_)
 . let#[_,_,_,_,_,_,_,_,_,_,_,_,_,rfl,_]:=h;rfl
 . skip
   refine lx ?_;intro XX;refine(let W1:TS:=_; have hW1:aO XX ((aP kZ).drop 1) W1:=(@aK _ _ _ (ae (Cq (K:=K) rfl (fD (aA 0)) (by intro _; rfl)) (aI (pS 2 mL.nd (iY K (fD (aA 0)) (eS fB aJ))) (aI (cK (aA 0) (eM hJ (fD (aA 0)) eZ (dk (fD (aA 2)))) 0x0) (aI (gS (bJ (aA 0) T.aZ.cl T.lI.m Qu (hr*>#[]) T.lI.b .nil bM (aA 2>=>aD)) (ck rfl (bG (aY (i:=3) mL.nd rfl 0x5) (bG (aY (i:=4) mL.nd rfl 0x5) cV)))) (aI (@bS _ _ _ _ (bJ (aA 2) T.c9.cl T.lC.m Qv (hr*>#[]) T.lC.b .nil bM (aA 3>=>aD)) 0x0) (aI (@bS _ _ _ _ (bJ (aA 2) T.c9.cl T.iO.m Qg (hr*>#[]) T.iO.b .nil bM ((iT K (aA 4))>=>aA 1>=>aD)) 0x0) (@aK _ _ _ (cK (aA 2) (iT K (aA 4)) 0x0))))))) (@aK _ _ _ (cK (aA 0) (aA 1) 0x0)))); ?_);let#[w,wt,fns,cs,ms,Hb,oc,sent,cn,wl,fs0,f,z,rfl,h,D,l1,l2,q]:=h;show#[_,(aI (@bS _ _ _ _ (pJ Ht PySem.F.slot_list_pop PySem.F.type_list_pop uD (fD (aA 0))) 0x0) hW1),?_];have ep:(((fs0++[f]).map λf:Fm=>V.ref f.a).dropLast)=fs0.map λf:Fm=>V.ref f.a:=by rw[Hq]; exact List.dropLast_concat
   have h1:=h.pop;show#[5,w.a,33,h.o,T.aZ.cl,T.dy,rfl,.inl #[6,aE.of h.st],w.st,_,V.ref f.a,7,h.st,(by rw[Hq]; simp),?_];rw[ep];generalize upd H w.st (.lst (fs0.map λf:Fm=>V.ref f.a))=H1 at h1 ⊢;show#[5,w.a,33,h1.o,T.aZ.cl,T.dy,6,.inl #[_,aE.of h1.st,rfl],?_];rcases q with⟨rfl,q⟩|⟨fs1,f1,ss,b,n,rfl,hs,fo,q⟩
   . exact aa 0x6 #[21,w.a,17,h1.o,T.aZ.cl,T.ie,(show(9:Nat)<1000 by decide),q _ _ (aB.refl _) h1.out]
   . refine ag 0x6 ?_;have hm:f1∈fs1++[f1]:=by simp
     have lf:(fs1++[f1]).length<=100:=by lia
     have lw:(wl.take f1.first).length<=100:=by rw[IE]; lia
     show#[5,w.a,33,h1.o,T.aZ.cl,T.dy,13,w.st,35,aE.of h1.st,(by rw[Hq]; exact pP _ _),?_];show#[5,w.a,33,h1.o,T.aZ.cl,T.fK,13,f1.a,33,(h1.fr hm).1,T.c9.cl,T.eQ,13,wt,wl,rfl,aE.of h1.wts,λl hl=>?_];rw[pR];have s2:=aB.new (o:=.lst (wl.take f1.first)) hl;let#[Hb2,h2,sb]:=bB.anew h1 s2 hl aH;show#[5,w.a,17,s2 _ _ h1.o,T.aZ.cl,T.fK,(show(9:Nat)<1000 by decide),?_];have h2:CA t Hb2 (upd (upd H1 l (.lst (wl.take f1.first))) w.a (.ins t.bF w.dx (bO "waiting" ↥l (wG w oc cn.rc wt)))) w l (fs1++[f1]) oc sent cn (wl.take f1.first):=h2;generalize upd (upd H1 l (.lst (wl.take f1.first))) w.a (.ins t.bF w.dx (bO "waiting" ↥l (wG w oc cn.rc wt)))=H2 at h2 ⊢;show#[5,w.a,9,h2.o,13,w,l,fs1++[f1],wl.take f1.first,fns,cs,ms,Hb2,f1,#[ss,.wait b n],rfl,#[oc,sent,cn,h2,D.mono sb,lw,lf],hm,hs,λv hv=>?_];let#[qa,p,us,av,rfl,a1,a2,a3,pa,xs,rfl,c1,c2]:=hv;obtain rfl:xs=[kj b,.int n]:=c2;show#[qa,5,h2.b<*a1,403,?_];have sn:=cw h2.b (h2.nob hm);show#[5,f1.a,f1.dx,5,(h2.fr hm).1,13,f1,p,us,ss,rfl,#[(h2.fr hm).1,(h2.fr hm).2],sn<*a2,Rk2.Ps.imp (λ_ _ z=>z*>sn) a3,fo.ok,fo.dv,fo.n,fo.len,λH3 s3 e3=>?_];have h3:=h2.boxesK s3 e3;have hm3:({ f1 with kvs:=setK f1.kvs ss }:Fm)∈fs1++[{ f1 with kvs:=setK f1.kvs ss }]:=by simp
     have l3:(setK f1.kvs ss).length<100000:=by
       have:=qX (cx f1.kvs ss) f1.kvs;have e:(cx f1.kvs ss).length=ss.length:=by unfold cx; simp
       have:=fo.n;have:=fo.len;show(gE _ _).length<_
       lia
     show#[5,f1.a,f1.dx,5,(h3.fr hm3).1,13,pa,35,h3.b<*c1,13,{ f1 with kvs:=setK f1.kvs ss },b,z,rfl,#[(h3.fr hm3).1,(h3.fr hm3).2],l3,λH4 s4 e4=>?_];have h4:=h3.boxesK s4 e4;have hm4:({ f1 with kvs:=iG (setK f1.kvs ss) b z }:Fm)∈fs1++[{ f1 with kvs:=iG (setK f1.kvs ss) b z }]:=by simp
     show#[5,pa,35,h4.b<*c1,13,f1.a,17,(h4.fr hm4).1,T.c9.cl,T.gV,(show(4:Nat)<1000 by decide),q l Hb2 _ sb (h4.goto (r:=n))]
def uw:FnScope ["self","frame","act","worths","kind"] ["self","frame","act","worths"] (aS j7):=by walk_at "s"
def F6 (T:Txt K mg t):FnOk P w K mg base CX0 15 t.x4 t.yK ["self","frame","act","worths"] (Ev K t):=by
 have QO:=Dq (P:=P) (w:=w) (base:=base) T;have Qw:=uo (P:=P) (w:=w) (base:=base) T;have Qi:=qJ (P:=P) (w:=w) (base:=base) T;refine T.rB.F.ok uw (λvs H Q E h=>?_) (λcdv A outer s H vs Q E hr h=>?_)
 . obtain⟨w,wt,fns,cs,ms,Hb,oc,sent,cn,wl,fs0,f,a,v,l,zs,rfl,h,D,l1,l2,⟨pa,xs,rfl,c1,c2⟩,hl,hz,hn,q⟩:=h;rfl
 . skip
   refine lx ?_;intro XX;refine(let W2:TS:=_; have hW2:aO XX ((aP j7).drop 2) W2:=(aI (ae (aj ay (aA 4) ah (af _)) (aI (cK (aA 1) (iT K (aA 2)) 0x0) (aI (@bS _ _ _ _ (cQ Ht JF JG oX (fD (aA 0)) ((sK<$>(bE (aA 1>=>aD))<*>(ax 0x1 0x0 T.b_len bQ ((bJ (aA 0) T.aZ.cl T.iQ.m Qi (hr*>#[]) T.iQ.b .nil bM (aA 1>=>aD))>=>aD)))>=>aD)) 0x0) (aI (@bS _ _ _ _ (bJ (aA 0) T.aZ.cl T.lE.m Qw (hr*>#[]) T.lE.b .nil bM ((iT K (aA 2))>=>aA 3>=>aD)) 0x0) (~~~eE)))) ac) zi); ?_);refine(let W1:TS:=_; have hW1:aO XX ((aP j7).drop 1) W1:=(aI (ae (aj ay (aA 4) ah (af _)) (aI (@bS _ _ _ _ (bJ (aA 0) T.aZ.cl T.rC.m QO (hr*>#[]) T.rC.b .nil bM ((iL K (aA 3))>=>aD)) 0x0) (~~~eE)) ac) hW2); ?_);obtain⟨w,wt,fns,cs,ms,Hb,oc,sent,cn,wl,fs0,f,a,v,l,zs,rfl,h,D,l1,l2,⟨pa,xs,rfl,c1,c2⟩,hl,hz,hn,q⟩:=h;show#[_,(aI (pS 4 uw.nd (iT K (aA 2))) hW1),?_];have h0:=(ud c2).1;have hf:f∈fs0++[f]:=by simp
   show#[5,pa,35,h.b<*c1,h0,?_];show#[45,?_];rcases q with⟨g,ts,n,m,rfl,hm,lm,q⟩|⟨tr,rfl,q⟩
   . refine aa (show ¬ decide (V.str "call"=V.str "back")=true by decide +kernel) #[45,ag (show decide (V.str "call"=V.str "call")=true by decide +kernel) ?_];let#[qq,us,rfl,d1,d2]:=c2;show#[5,pa,35,h.b<*c1,13,f.a,17,(h.fr hf).1,T.c9.cl,T.gV,(show(4:Nat)<1000 by decide),?_];have h1:CA t Hb (upd H f.a (.ins t.dZ f.dx (bO "spot" (.int n) (fF f)))) w wt (fs0++[{ f with spot:=n }]) oc sent cn wl:=h.goto (r:=n);generalize upd H f.a (.ins t.dZ f.dx (bO "spot" (.int n) (fF f)))=H1 at h1 ⊢;have hf1:({ f with spot:=n }:Fm)∈fs0++[{ f with spot:=n }]:=by simp
     have lf:(fs0++[({ f with spot:=n }:Fm)]).length<=100:=by rw[HZ,JR]; lia
     show#[5,w.a,33,h1.o,T.aZ.cl,T.fK,rfl,.inl #[6,aE.of h1.wts],5,eh,λl5 h5=>?_];have s5:=aB.new (o:=.lst [↥f.a]) h5;have h5':=h1.keep s5;show#[5,w.a,9,h5'.o,13,w,wt,fs0++[{ f with spot:=n }],wl,fns,cs,ms,Hb,{ f with spot:=n },m,rfl,#[oc,sent,cn,h5',D,l1,lf],hf1,hm,λc z223_=>?_];let#[ws,e1,e2]:=z223_;have lc:=Rk2.Ps.len e2;show#[c,ws,rfl,.inr (h5'.b<*e1),l5,19,aH,∅,∅,fC (by simp; lia),λp6 h6=>?_];have s6:=aB.new (o:=.lst (List.replicate (ws.length:Int).toNat [V.ref f.a]).flatten) h6;have h6':=h5'.keep s6;show#[wt,p6,wl,11,h6'.wts,aH,fC (by rw[Cw.rep_one,JQ]; lia),?_];have h7:=h6'.wait (xs:=wl++(List.replicate (ws.length:Int).toNat [V.ref f.a]).flatten);rw[Cw.rep_one,JI,lc] at h7 ⊢;generalize upd _ wt (.lst (wl++List.replicate m.ch.length (V.ref f.a)))=H7 at h7 ⊢;have lw:(wl++List.replicate m.ch.length (V.ref f.a)).length=wl.length+m.ch.length:=by rw[HZ,JQ]
     show#[5,w.a,9,h7.o,13,pa,35,h7.b<*c1,13,w,wt,fs0++[{ f with spot:=n }],wl++List.replicate m.ch.length (V.ref f.a),fns,cs,ms,Hb,oc,sent,cn,g,l,zs.map V.int,rfl,h7,(by rw[lw]; lia),lf,aE.of (h7.b _ _ hl),by rw[HS]; lia,λx dx bx Hb' H' sb hC=>?_];rw[lw] at hC;exact q x dx bx Hb' H' sb hC
   . refine ag (show decide (V.str "back"=V.str "back")=true by decide +kernel) ?_;obtain⟨z0,rfl⟩:∃z0,zs=[z0]:=by match zs,hz with | [y],_=>exact⟨y,rfl⟩
     show#[5,w.a,9,h.o,13,l,35,aE.of (h.b _ _ hl),rfl,w,wt,fns,cs,ms,Hb,oc,sent,cn,wl,fs0,f,z0,rfl,h,D,l1,l2,q]
def kh:FnScope ["self","frame","sets","act","worths"] ["self"] (aS gp):=by walk_at "s"
def zd (T:Txt K mg t):FnOk P w K mg base CX0 16 t.xH t.yV ["self"] (w9 K t):=by
 have QP:=AI (P:=P) (w:=w) (base:=base) T;have Qu:=uN (P:=P) (w:=w) (base:=base) T;have Qr:=uA (P:=P) (w:=w) (base:=base) T;have Qv:=sf (P:=P) (w:=w) (base:=base) T;have QQ:=F6 (P:=P) (w:=w) (base:=base) T;refine T.rE.F.ok kh (λvs H Q E h=>?_) (λcdv A outer s H vs Q E hr h=>?_)
 . let#[_,_,_,_,_,_,_,_,_,_,_,_,_,_,rfl,_]:=h;rfl
 . skip
   refine lx ?_;intro XX;refine(let W4:TS:=_; have hW4:aO XX ((aP gp).drop 4) W4:=(~~~(bJ (aA 0) T.aZ.cl T.rB.m QQ (hr*>#[]) T.rB.b .nil bM (aA 1>=>aA 3>=>aA 4>=>aD))); ?_);refine(let W3:TS:=_; have hW3:aO XX ((aP gp).drop 3) W3:=(aI (@bS _ _ _ _ (bJ (aA 1) T.c9.cl T.lC.m Qv (hr*>#[]) T.lC.b .nil bM (aA 2>=>aD)) 0x0) hW4); ?_);refine(let W2:TS:=_; have hW2:aO XX ((aP gp).drop 2) W2:=(aI (pS 4 kh.nd (bJ (aA 1) T.c9.cl T.lD.m Qr (hr*>#[]) T.lD.b .nil bM ((cD T.reckonings_of QP hr (aA 3>=>aD))>=>aD))) hW3); ?_);refine(let W1:TS:=_; have hW1:aO XX ((aP gp).drop 1) W1:=(aI (gS (bJ (aA 0) T.aZ.cl T.lI.m Qu (hr*>#[]) T.lI.b .nil bM (aA 1>=>aD)) (ck rfl (bG (aY (i:=2) kh.nd rfl 0x5) (bG (aY (i:=3) kh.nd rfl 0x5) cV)))) hW2); ?_);let#[w,wt,fns,cs,ms,Hb,oc,sent,cn,wl,fs0,f,a,ss,rfl,h,D,l1,l2,hs,fo,ht,hn,q]:=h;show#[_,(aI (pS 1 kh.nd (iY K (fD (aA 0)) (eS fB aJ))) hW1),?_];have hf:f∈fs0++[f]:=by simp
   have lf:(fs0++[f]).length<=100:=by rw[HZ,JR]; lia
   show#[5,w.a,33,h.o,T.aZ.cl,T.dy,13,w.st,35,aE.of h.st,(by rw[Hq]; exact pP _ _),?_];show#[5,w.a,9,h.o,13,w,wt,fs0++[f],wl,fns,cs,ms,Hb,f,#[ss,a],rfl,#[oc,sent,cn,h,D,l1,lf],hf,hs,λv hv=>?_];let#[qa,p,us,av,rfl,a1,a2,a3,a4]:=hv;show#[qa,5,h.b<*a1,403,?_];show#[5,f.a,f.dx,5,(h.fr hf).1,13,a,av,rfl,a4*>h.b,hn,λl1' us1 H1 s1 n1 e1 p1=>?_];show#[f,l1',us1,fU a,rfl,#[s1 _ _ (h.fr hf).1,s1 _ _ (h.fr hf).2],aE.of e1,p1,ht,fo.dv,∅,λl2' H2 s2 n2 e2=>?_];have sg:aB Hb (Wk.gr Hb H H2):=Wk.gr_same h.b;have h2:=h.grow (s1\s2);have hl2:Wk.gr Hb H H2 l2'=⇑(.lst (((fU a).map (Rk2.wv (Rk2.fOf f.kvs))).map V.int)):=Wk.gr_new (s1.free n2) e2;generalize Wk.gr Hb H H2=Hg at h2 sg hl2;have sn:=cw h2.b (h2.nob hf);show#[5,f.a,f.dx,5,(h2.fr hf).1,13,f,p,us,ss,rfl,#[(h2.fr hf).1,(h2.fr hf).2],(sg\sn)<*a2,Rk2.Ps.imp (λ_ _ z=>z*>(sg\sn)) a3,fo.ok,fo.dv,fo.n,fo.len,λH3 s3 e3=>?_];have h3:=h2.boxesK s3 e3;show#[5,w.a,9,h3.o,213,w,wt,fns,cs,ms,Hg,oc,sent,cn,wl,fs0,{ f with kvs:=setK f.kvs ss },a,av,l2',(fU a).map (Rk2.wv (Rk2.fOf f.kvs)),rfl,h3,D.mono sg,l1,l2,a4*>sg,hl2,HS _,by rw[HS]; lia,?_];rcases q with⟨g,ts,n,m,rfl,hm,lm,q⟩|⟨tr,rfl,q⟩
   . exact(.inl #[g,ts,n,m,rfl,hm,lm,λx dx bx Hb' H' sb hC=>q x dx bx Hb' H' (sg\sb) hC])
   . refine .inr #[tr,rfl,?_];rcases q with⟨e,q⟩|⟨fs1,f1,ss1,b,n,e,hs1,fo1,q⟩
     . exact .inl #[e,λHb' H' sb hC=>q Hb' H' (sg\sb) hC]
     . exact .inr #[fs1,f1,ss1,b,n,e,hs1,fo1,λwt' Hb' H' sb hC=>q wt' Hb' H' (sg\sb) hC]
def Dm:FnScope ["self"] ["self"] (aS mF):=by walk_at "s"
def zj (T:Txt K mg t):FnOk P w K mg base (bv P w) 17 t.xP t.yg ["self"] (zb K t):=by
 have Qj:=oO (P:=P) (w:=w) (base:=base) T;have QR:=zd (P:=P) (w:=w) (base:=base) T;refine T.gU.F.okE Dm (λvs H Q E h=>?_) (λcdv A outer s H vs Q E hr h=>?_)
 . let#[_,rfl,_]:=h;rfl
 . let#[x,rfl,q]:=h;show#[_,(aI (ae (cL (gk (aA 0) T.aZ.cl T.iW.m Qj (hr*>#[]) T.iW.b .nil bM)) (@aK _ _ _ (qy T.cg T.i0_Ended rfl oV)) ac) (~~~(gk (aA 0) T.aZ.cl T.rE.m QR (hr*>#[]) T.rE.b .nil bM))),?_];rcases q with⟨w,wt,fns,cs,ms,Hb,oc,sent,cn,wl,fs0,f,a,ss,e,h,D,l1,l2,hs,fo,ht,hn,q⟩|⟨Hb,w,wt,oc,sent,cn,wl,rfl,h,q⟩
   . cases e;have lf:(fs0++[f]).length<=100:=by rw[HZ,JR]; lia
     show#[5,w.a,9,h.o,rfl,w,wt,fs0++[f],oc,sent,cn,wl,Hb,rfl,h,lf,5,aa 0x6 ?_];show#[5,w.a,9,h.o,rfl,w,wt,fns,cs,ms,Hb,oc,sent,cn,wl,fs0,f,a,ss,rfl,h,D,l1,l2,hs,fo,ht,hn,q]
   . show#[5,w.a,9,h.o,rfl,w,wt,[],oc,sent,cn,wl,Hb,rfl,h,Hw _,5,ag rfl (q H (aB.refl _))]
def zk:FnScope ["self","program"] ["self","program"] (aS gJ):=by walk_at "s"
def zr (T:Txt K mg t):FnOk P w K mg base CX0 6 t.xN t.ye ["self","program"] (Cb K t):=by
 have QS:=Ak (P:=P) (w:=w) (base:=base) T;refine T.rH.F.ok zk (λvs H Q E h=>?_) (λcdv A outer s H vs Q E hr h=>?_)
 . let#[_,_,_,_,rfl,_]:=h;rfl
 . skip
   refine lx ?_;intro XX;refine(let W5:TS:=_; have hW5:aO XX ((aP gJ).drop 5) W5:=(@aK _ _ _ (cK (aA 0) aJ 0x0)); ?_);refine(let W4:TS:=_; have hW4:aO XX ((aP gJ).drop 4) W4:=(aI (cK (aA 0) Gz 0x0) hW5); ?_);refine(let W3:TS:=_; have hW3:aO XX ((aP gJ).drop 3) W3:=(aI (cK (aA 0) (bE aD) 0x0) hW4); ?_);refine(let W2:TS:=_; have hW2:aO XX ((aP gJ).drop 2) W2:=(aI (cK (aA 0) eE 0x0) hW3); ?_);refine(let W1:TS:=_; have hW1:aO XX ((aP gJ).drop 1) W1:=(aI (cK (aA 0) (bE aD) 0x0) hW2); ?_);let#[x,dx,p,fns,rfl,hx,hp,hne,hlen,hall,hnd,q]:=h;show#[_,(aI (cK (aA 0) (pY T.dM T.wq QS (hr*>#[]) (aA 1>=>aD)) 0x0) hW1),?_];show#[5,λfl fdx hfl hfdx nfd=>?_];have nxf:x≠fl:=λz=>by rw[<- z,hx] at hfl; cases hfl
   have nxd:x≠fdx:=λz=>by rw[<- z,hx] at hfdx; cases hfdx
   have sE:aB (ers x H) (ers fl (upd (upd H fdx (.own fl)) fl (.ins t.bj fdx []))):=λb o hb=>by
     unfold L2.ers at hb;split at hb
     . cases hb
     . have n1:b≠fl:=λz=>by rw[z,hfl] at hb; cases hb
       have n2:b≠fdx:=λz=>by rw[z,hfdx] at hb; cases hb
       rw[ak n1,aM n1,aM n2];exact hb
   show#[fl,fdx,p,fns,rfl,aH,sE.seq hp,hne,hlen,λf hf=>(hall f hf)*>sE,hnd,λH2 s2 hFl=>#[rfl,?_]];have hx2:H2 x=⇑(.ins t.bF dx []):=s2 _ _ (by rw[ak nxf,aM nxf,aM nxd]; exact hx);have sb:aB (ers x H) (ers x H2):=λb o hb=>by
     have nb:b≠x:=λz=>by rw[z] at hb; unfold L2.ers at hb; rw[He rfl] at hb; cases hb
     rw[ak nb];exact s2 _ _ (sE _ _ hb)
   have hFb:F2.FlowsAt K t.bj (ers x H2) fl fns:=Wk.flows_ni hFl (λb o hb hn=>by
     have nb:b≠x:=λz=>by rw[z,hx2] at hb; cases hb; exact hn _ _ _ rfl
     rw[ak nb];exact hb) (λo ho=>by rw[ak nxf.symm]; exact ho)
   show#[5,x,17,hx2,T.aZ.cl,T.ic,#[],cH,λst hst=>#[5,x,17,aB.new hst _ _ aH,T.aZ.cl,T.dy,J9 (dR _ _ _ 0 (HY 0)) #[],5,x,17,aH,T.aZ.cl,T.ie,J9 (dR _ _ _ 1 (dR _ _ _ 0 (HY 0))) #[],cH,λsd hsd=>#[5,x,17,aB.new hsd _ _ aH,T.aZ.cl,T.lX,J9 (dR _ _ _ 2 (dR _ _ _ 1 (dR _ _ _ 0 (HY 0)))) #[],λct hct=>#[5,x,17,aB.new hct _ _ aH,T.aZ.cl,T.lU,J9 (dR _ _ _ 3 (dR _ _ _ 2 (dR _ _ _ 1 (dR _ _ _ 0 (HY 0))))) #[],5,x,17,aH,T.aZ.cl,T.lV,J9 (dR _ _ _ 4 (dR _ _ _ 3 (dR _ _ _ 2 (dR _ _ _ 1 (dR _ _ _ 0 (HY 0)))))) #[],?_]]]];have nst:st≠x:=λz=>by rw[z,aH] at hst; cases hst
   have hst2:H2 st=none:=by rwa [aM nst] at hst
   have nsd:sd≠x:=λz=>by rw[z,aH] at hsd; cases hsd
   rw[aM nsd,aM nsd] at hsd;have nss:sd≠st:=λz=>by rw[z,aH] at hsd; cases hsd
   have hsd2:H2 sd=none:=by rwa [aM nss,aM nsd] at hsd
   have nct:ct≠x:=λz=>by rw[z,aH] at hct; cases hct
   rw[aM nct] at hct;have ncd:ct≠sd:=λz=>by rw[z,aH] at hct; cases hct
   rw[aM ncd,aM nct,aM nct] at hct;have ncs:ct≠st:=λz=>by rw[z,aH] at hct; cases hct
   have hct2:H2 ct=none:=by rwa [aM ncs,aM nct] at hct
   have hb0:∀{b:L6},H2 b=none->ers x H2 b=none:=λ{b} hb=>by
     unfold L2.ers;split
     . rfl
     . exact hb
   have fin:∀b o,ers x H2 b=⇑o->b≠x/\b≠st/\b≠sd/\b≠ct/\H2 b=⇑o:=λb o hb=>by
     unfold L2.ers at hb;split at hb
     . cases hb
     . rename_i nb
       show#[nb,(λz=>by rw[z,hst2] at hb; cases hb),(λz=>by rw[z,hsd2] at hb; cases hb),(λz=>by rw[z,hct2] at hb; cases hb),hb]
   refine q fl st sd ct (ers x H2) _ sb #[λb o hb=>?_,λp hp=>?_,λp hp=>?_,?_] hFb
   . let#[n1,n2,n3,n4,e]:=fin b o hb;rw[aM n1,aM n1,aM n4,aM n1,aM n3,aM n1,aM n1,aM n2,aM n1];exact e
   . simp only[Hh,ID,or_false] at hp;rcases hp with rfl|rfl|rfl|rfl
     . exact aH
     . show upd _ x _ st=_;rw[aM nst,aM nst,aM ncs.symm,aM nst,aM nss.symm,aM nst,aM nst,aH]
     . show upd _ x _ sd=_;rw[aM nsd,aM nsd,aM ncd.symm,aM nsd,aH]
     . show upd _ x _ ct=_;rw[aM nct,aM nct,aH]
   . simp only[Hh,ID,or_false] at hp;rcases hp with rfl|rfl|rfl|rfl
     . exact iD
     . exact hb0 hst2
     . exact hb0 hsd2
     . exact hb0 hct2
   . simp [nst.symm,nsd.symm,nct.symm,nss.symm,ncs.symm,ncd.symm]
def DQ:FnScope ["self","program","code","table","args"] ["self","program","code","table","args"] (aS gZ):=by walk_at "s"
def CN (T:Txt K mg t):FnOk P w K mg base CX0 8 t.x9 t.yN ["self","program","code","table","args"] (Fw K t):=by
 have QT:=zh (P:=P) (w:=w) (base:=base) T;have QU:=zY (P:=P) (w:=w) (base:=base) T;have QV:=zr (P:=P) (w:=w) (base:=base) T;have Qw:=uo (P:=P) (w:=w) (base:=base) T;refine T.wo.F.ok DQ (λvs H Q E h=>?_) (λcdv A outer s H vs Q E hr h=>?_)
 . let#[_,_,_,_,_,_,_,_,_,_,_,rfl,_]:=h;rfl
 . skip
   refine lx ?_;intro XX;refine(let W4:TS:=_; have hW4:aO XX ((aP gZ).drop 4) W4:=(@aK _ _ _ (@bS _ _ _ _ (bJ (aA 0) T.aZ.cl T.lE.m Qw (hr*>#[]) T.lE.b .nil bM ((fD (fD (aA 0)))>=>aA 4>=>aD)) 0x0)); ?_);refine(let W3:TS:=_; have hW3:aO XX ((aP gZ).drop 3) W3:=(aI (cK (aA 0) (bE aD) 0x0) hW4); ?_);refine(let W2:TS:=_; have hW2:aO XX ((aP gZ).drop 2) W2:=(aI (cK (aA 0) (cD T.marks_by_name QU hr (aA 3>=>aD)) 0x0) hW3); ?_);refine(let W1:TS:=_; have hW1:aO XX ((aP gZ).drop 1) W1:=(aI (cK (aA 0) (cD T.spots_by_name QT hr (aA 2>=>aD)) 0x0) hW2); ?_);let#[x,dx,p,ar,cv,tv,fns,F,cs,ms,ys,rfl,hx,hp,hne,hlen,hall,hnd,hF,hc,c1,c2,c3,ht,t1,t2,t3,har,hy,q]:=h;show#[_,(aI (@bS _ _ _ _ (A5 (qr rfl T.HM.g rfl) T.rH.B QV (hr*>#[]) T.rH.b .nil bM (aA 0>=>aA 1>=>aD)) 0x0) hW1),?_];show#[21,x,dx,p,fns,rfl,hx,hp,hne,hlen,hall,hnd,λfl st sd ct Hb H1 s1 h1 hFl=>?_];show#[5,cv,cs,Hb,rfl,h1.b,hc*>s1,c1,c2,c3,λd2 H2 s2 hS=>?_];have h2:=h1.grow s2;have g2:aB Hb (Wk.gr Hb H1 H2):=Wk.gr_same h1.b;generalize Wk.gr Hb H1 H2=Hb2 at h2 g2 hS;show#[5,x,17,h2.get Hj,T.aZ.cl,T.jY,(show(6:Nat)<1000 by decide),?_];have h3:=Own.set (A:=[]) (o':=.ins t.bF dx (bO "spots_of" ↥d2 (wF (w0 x dx st sd ct fl) .non 0))) h2;show#[5,tv,ms,Hb2,rfl,h3.b,(ht*>s1).mono g2,t1,t2,t3,λd4 H4 s4 hM=>?_];have h4:=h3.grow s4;have g4:aB Hb2 (Wk.gr Hb2 (upd H2 x (.ins t.bF dx (bO "spots_of" ↥d2 (wF (w0 x dx st sd ct fl) .non 0)))) H4):=Wk.gr_same h3.b;generalize Wk.gr Hb2 (upd H2 x (.ins t.bF dx (bO "spots_of" ↥d2 (wF (w0 x dx st sd ct fl) .non 0)))) H4=Hb4 at h4 g4 hM;show#[5,x,17,h4.get Hj,T.aZ.cl,T.jX,(show(7:Nat)<1000 by decide),cH,λwt hwt=>?_];have h5:=Own.set (A:=[]) (o':=.ins t.bF dx (bO "marks_of" ↥d4 (bO "spots_of" ↥d2 (wF (w0 x dx st sd ct fl) .non 0)))) h4;have s6:=aB.new (o:=.lst []) hwt;let#[h6,g6]:=Own.take (N:=[(wt,.lst [])]) h5 s6 (λp hp=>by rw[IC.mp hp]; show#[hwt,aH]) 0x6;generalize List.foldr (λ(p:L6×HO) G=>ers p.1 G) _ [(wt,HO.lst [])]=Hb6 at h6 g6;show#[5,x,17,h6.get Hj,T.aZ.cl,T.fK,(show(8:Nat)<1000 by decide),?_];have h7:=Own.set (A:=[]) (o':=.ins t.bF dx (bO "waiting" ↥wt (bO "marks_of" ↥d4 (bO "spots_of" ↥d2 (wF (w0 x dx st sd ct fl) .non 0))))) h6;have h7:CA t Hb6 _ ⟨x,dx,st,sd,ct,fl,d2,d4⟩ wt [] .non [] ⟨[],0⟩ []:=h7;have sA:aB (ers x H) Hb6:=((s1\g2).trans g4).trans g6;have D:Dt K t Hb6 ⟨x,dx,st,sd,ct,fl,d2,d4⟩ fns cs ms:=#[hFl*>((g2\g4).trans g6),hS*>(g4\g6),hM*>g6]
   let#[dx3,gs3,fz,k1,k2,k3]:=Wk.fl_last (D.fl.mono h7.b);rw[hF] at k2;cases k2;show#[5,x,9,h7.o,13,x,33,h7.o,T.aZ.cl,T.ic,rfl,fl,33,k1,T.dM.cl,T.ja,k3,5,#[x,dx,st,sd,ct,fl,d2,d4],wt,[],[],fns,cs,ms,Hb6,.non,[],#[[],(0)],F.name,ar,ys,rfl,h7,#[],#[],(sA\h7.b).seq har,hy,λfa fdx fbx Hb' H' sb hC=>?_];exact q #[x,dx,st,sd,ct,fl,d2,d4] wt fa fdx fbx Hb' H' rfl (sA\sb) hC (D.mono sb)
def An:FnScope ["_law_script","_law_k"] ["_law_script","_law_k"] (aS me):=by walk_at "s"
def F0 (T:Txt K mg t):FnOk P w K mg base CX0 1 t.xW t.yn ["_law_script","_law_k"] (Ge K):=by
 refine T.zH.F.ok An (λvs H Q E h=>?_) (λcdv A outer s H vs Q E hr h=>?_)
 . let#[_,_,_,rfl,_]:=h;rfl
 . let#[a,ns,k,rfl,hS,hl,h0,q]:=h;show#[_,(aI (ae (aj (aw jD) (aA 1) (ax 0x1 0x0 T.b_len bQ (aA 0>=>aD)) (af _)) (~~~(iY K (aA 0) (aA 1))) ac) (~~~aJ)),?_];have hlen:(ns.map V.int).length=ns.length:=HS _;show#[21,a,5,.inl hS,77,?_];refine pH (λc=>?_) (λc=>?_)
   . have c:=bC c;rw[hlen] at c;let#[z,hz]:=Bm h0 c;show#[21,a,35,hS,hz,q _]
   . exact q _
def HD:FnScope ["_law_found"] ["_law_found"] (aS lq):=by walk_at "s"
def nI (T:Txt K mg t):FnOk P w K mg base CX0 1 t.xr t.z9 ["_law_found"] (C1 K):=by
 refine T.lT.F.ok HD (λvs H Q E h=>?_) (λcdv A outer s H vs Q E hr h=>?_)
 . let#[_,rfl,_]:=h;rfl
 . let#[z,rfl,q]:=h;show#[_,(aI (@aR _ _ _ _ (g7 (ax kM 0x0 T.b_isinstance dg (aA 0>=>(fw (v:=V.ty "int") rfl T.b_int oC rfl)>=>aD)) (i7 (qN (ax kM 0x0 T.b_isinstance dg (aA 0>=>(fw (v:=V.ty "bool") rfl T.b_bool Fz rfl)>=>aD)))))) ac),?_];show#[40,true,rfl,.int _,13,ag rfl #[40,false,rfl,.int _,13,q]]
end
end K38
namespace K38
open PySem L2 K21 Rk2
section
variable {P:Program} {w:World} {K:L7} {mg:Str->Hl K'} {base:Heap} {t:Adr}
def Co:FnScope ["_law_sign","_law_one","_law_other"] ["_law_sign","_law_one","_law_other"] (aS nV):=by walk_at "s"
def GS (T:Txt K mg t):FnOk P w K mg base CX0 1 t.xp t.z7 ["_law_sign","_law_one","_law_other"] (DE K):=by
 refine T.zN.F.ok Co (λvs H Q E h=>?_) (λcdv A outer s H vs Q E hr h=>?_)
 . let#[_,_,_,rfl,_]:=h;rfl
 . let#[s,a,b,rfl,h1,h2,h3,h4,q]:=h;show#[_,(aI (ae (aj ay (aA 0) ah (af _)) (~~~(aV bD<$>(aw bU<$>aA 1<*>aA 2)<*>(aV iw<$>aJ<*>aJ))) ac) (aI (ae (aj ay (aA 0) ah (af _)) (~~~(aV bD<$>(aw g9<$>aA 1<*>aA 2)<*>(aV iw<$>aJ<*>aJ))) ac) (aI (ae (aj ay (aA 0) ah (af _)) (~~~(aV bD<$>(aV fX<$>aA 1<*>aA 2)<*>(aV iw<$>aJ<*>aJ))) ac) (aI (ae (aj ay (aA 0) ah (af _)) (aI (ae (aj ay (aA 2) aJ (af _)) (~~~aJ) ac) (~~~(aV wQ<$>aA 1<*>aA 2))) ac) (aI (ae (aj ay (aA 0) ah (af _)) (~~~(de qK 0x0 T.b_int oC ((gR (aw jD) (aA 1) (aA 2) (af _))>=>aD))) ac) (aI (ae (aj ay (aA 0) ah (af _)) (~~~(de qK 0x0 T.b_int oC ((gR ay (aA 1) (aA 2) (af _))>=>aD))) ac) (aI (ae (aj ay (aA 0) ah (af _)) (~~~(aw wm<$>aA 1<*>aA 2)) ac) (aI (ae (aj ay (aA 0) ah (af _)) (~~~(aw uJ<$>aA 1<*>aA 2)) ac) (~~~(aw wE<$>aA 1<*>aA 2)))))))))),?_];have hw:wide=281474976710656:=rfl;show#[45,?_];by_cases k1:s="+"
   . refine ag (Hf (Hr V.str k1)) ?_;have e:valOf s a b=(a+b)%wide:=by unfold valOf; rw[He k1]
     rw[e] at q;show#[5427,#[#[],#[],#[]],19,jT,vq (Hr V.int (Hr (λz=>(a+b)%z) gz)) q]
   refine aa (λz=>k1 0xC) ?_;show#[45,?_];by_cases k2:s="-"
   . refine ag (Hf (Hr V.str k2)) ?_;have e:valOf s a b=(a - b)%wide:=by unfold valOf; rw[HX k1,He k2]
     rw[e] at q;show#[5427,#[#[],#[],#[]],19,jT,vq (Hr V.int (Hr (λz=>(a - b)%z) gz)) q]
   refine aa (λz=>k2 0xC) ?_;show#[45,?_];by_cases k3:s="*"
   . refine ag (Hf (Hr V.str k3)) ?_;have e:valOf s a b=(a * b)%wide:=by unfold valOf; rw[HX k1,HX k2,He k3]
     rw[e] at q;show#[339,.inl #[∅,∅],19,#[#[],#[],#[]],19,jT,vq (Hr V.int (Hr (λz=>(a * b)%z) gz)) q]
   refine aa (λz=>k3 0xC) ?_;show#[45,?_];by_cases k4:s="/"
   . refine ag (Hf (Hr V.str k4)) ?_;have e:valOf s a b=if b=0 then 0 else a / b:=by unfold valOf; rw[HX k1,HX k2,HX k3,He k4]
     rw[e] at q;show#[45,?_];by_cases hb:b=0
     . rw[He hb] at q;exact ag (Hf (Hr V.int hb)) q
     . rw[HX hb] at q;exact aa (λz=>hb (V.int.inj (bC z))) #[339,#[∅,∅],q]
   refine aa (λz=>k4 0xC) ?_;show#[45,?_];by_cases k5:s="<"
   . refine ag (Hf (Hr V.str k5)) ?_;have e:valOf s a b=if a<b then 1 else 0:=by unfold valOf; rw[HX k1,HX k2,HX k3,HX k4,He k5]
     rw[e] at q;show#[339,.inr #[5,vq ?_ q]];by_cases hb:a<b <;> simp [hb]
   refine aa (λz=>k5 0xC) ?_;show#[45,?_];by_cases k6:s="="
   . refine ag (Hf (Hr V.str k6)) ?_;have e:valOf s a b=if a=b then 1 else 0:=by unfold valOf; rw[HX k1,HX k2,HX k3,HX k4,HX k5,He k6]
     rw[e] at q;show#[43,.inr #[5,vq ?_ q]];by_cases hb:a=b <;> simp [hb]
   refine aa (λz=>k6 0xC) ?_;show#[45,?_];by_cases k7:s="&"
   . refine ag (Hf (Hr V.str k7)) ?_;have e:valOf s a b=Builtin.bitAnd a b:=by unfold valOf bw; rw[HX k1,HX k2,HX k3,HX k4,HX k5,HX k6,He k7]
     rw[e] at q;show#[339,q]
   refine aa (λz=>k7 0xC) ?_;show#[45,?_];by_cases k8:s="|"
   . refine ag (Hf (Hr V.str k8)) ?_;have e:valOf s a b=Builtin.bitOr a b:=by unfold valOf bw; rw[HX k1,HX k2,HX k3,HX k4,HX k5,HX k6,HX k7,He k8]
     rw[e] at q;show#[339,q]
   refine aa (λz=>k8 0xC) ?_;have e:valOf s a b=Builtin.bitXor a b:=by unfold valOf bw; rw[HX k1,HX k2,HX k3,HX k4,HX k5,HX k6,HX k7,HX k8]
   rw[e] at q;show#[339,q]
def Ep:FnScope ["_law_cell"] ["_law_cell"] (aS mq):=by walk_at "s"
def BX (T:Txt K mg t):FnOk P w K mg base CX0 1 t.xj t.yx ["_law_cell"] (Gu K):=by
 refine T.lS.F.ok Ep (λvs H Q E h=>?_) (λcdv A outer s H vs Q E hr h=>?_)
 . let#[_,rfl,_]:=h;rfl
 . let#[c,rfl,q]:=h;show#[_,(aI (ae (aj ay (aV bD<$>aA 0<*>aJ) aJ (af _)) (~~~(aV bD<$>(aV cG<$>aA 0<*>aJ)<*>(aV iw<$>aJ<*>aJ))) ac) (aI (ae (aj ay (aV bD<$>aA 0<*>aJ) aJ (af _)) (~~~(aw g9<$>(aw g9<$>(aV iw<$>aJ<*>aJ)<*>aJ)<*>(aV bD<$>(aV cG<$>aA 0<*>aJ)<*>aJ))) ac) (~~~(aV bD<$>(aV cG<$>aA 0<*>aJ)<*>aJ)))),?_];have hw:wide=281474976710656:=rfl;have m:∀z n:Int,0<n->0<=z%n/\z%n<n:=λz n hn=>#[JT _ ∅,JN _ hn]
   show#[83,(show(0:Int)<3 by decide),13,?_];refine pH (λ_=>?_) (λ_=>?_)
   . have:=m (c / 3) wide #[];show#[83,#[#[],#[]],19,#[#[],#[],#[]],19,jT,vq (Hr V.int (Hr (λz=>c / 3%z) gz)) (q _ this.1 this.2)]
   show#[83,(show(0:Int)<3 by decide),13,?_];refine pH (λ_=>?_) (λ_=>?_)
   . have:=m (c / 3) 4 #[];show#[19,#[#[],#[],#[]],1235,#[#[],#[]],19,(show(0:Int)<4 by decide),19,?_];have e:(2:Int) ^ (48:Int).toNat - 1 - c / 3%4=wide - 1 - c / 3%4:=by rw[gz]
     exact vq (Hr V.int e) (q _ ∅ ∅)
   . have:=m (c / 3) 5 #[];show#[83,#[#[],#[]],19,(show(0:Int)<5 by decide),q _ this.1 ∅]
end
end K38
namespace K38
open PySem L2 Gx Fl K41
section
variable {P:Program} {w:World} {K:L7} {mg:Str->Hl K'} {base:Heap} {t:Adr}
def gA:FnScope ["_law_cell","_law_many","_law_letters","_law_size","_law_word","_law_at","_law_found","_law_k","_law_name"] ["_law_cell","_law_many"] (aS fk):=by walk_at "s"
def HE (T:Txt K mg t):FnOk P w K mg base CX0 1 t.xi t.yw ["_law_cell","_law_many"] (Ef K):=by
 refine T.rR.F.ok gA (λvs H Q E h=>?_) (λcdv A outer s H vs Q E hr h=>?_)
 . let#[_,_,rfl,_]:=h;rfl
 . skip
   refine lx ?_;intro XX;refine(let W6:TS:=_; have hW6:aO XX ((aP fk).drop 6) W6:=(~~~(aA 6)); ?_);refine(let W5:TS:=_; have hW5:aO XX ((aP fk).drop 5) W5:=(aI (bq PassesOwn.never rfl (ci rfl T.b_range (aA 1>=>aD)) (aY (i:=7) gA.nd rfl 0x5) (aI (pS 8 gA.nd (nr<$>(nr<$>(eM pb (aA 4) eZ (dk (aA 5)))<*>(cB pz (aA 2) (aV bD<$>(aw bU<$>(aV cG<$>aA 0<*>aJ)<*>aA 7)<*>aJ) (λ_ _=>rfl)))<*>(eM pb (aA 4) (dk (aA 5)) eZ))) (aI (ae (aj kL (aA 8) (@tj _ _ [V.str "fn",V.str "in",V.str "new",V.str "get",V.str "put",V.str "call",V.str "out",V.str "if",V.str "while",V.str "else",V.str "end",V.str "back"] (by kernel_rfl)) (by with_unfolding_all rfl)) (@aK _ _ _ (pS 8 gA.nd (nr<$>aA 8<*>ah))) ac) (@aK _ _ _ (@bS _ _ _ _ (cQ Ht IK IL fY (aA 6) (aA 8>=>aD)) 0x0))))) hW6); ?_);refine(let W4:TS:=_; have hW4:aO XX ((aP fk).drop 4) W4:=(aI (pS 6 gA.nd (bE aD)) hW5); ?_);refine(let W3:TS:=_; have hW3:aO XX ((aP fk).drop 3) W3:=(aI (pS 5 gA.nd (aV bD<$>(aV cG<$>aA 0<*>aJ)<*>(aw bU<$>aA 3<*>aJ))) hW4); ?_);refine(let W2:TS:=_; have hW2:aO XX ((aP fk).drop 2) W2:=(aI (pS 4 gA.nd (cQ PySem.F.plainAttrs_str PySem.F.slot_str_join PySem.F.type_str_join vF ah ((dL (N':=["_law_k","_law_letters","_law_cell"]) (js:=[none,some 2,some 0]) (by kernel_rfl) rfl (ci rfl T.b_range (aA 3>=>aD)) dD (λ_ _ _ _=>(aY (i:=0) (show(["_law_k","_law_letters","_law_cell"]:List Str).Nodup by decide +kernel) rfl 0x5 (.inr rfl))) (λ_ _ _ _=>cj) (λ_ _ _ _=>(cB pz (aA 1) (aV bD<$>(aV cG<$>(aV bD<$>(aV fX<$>aA 2<*>(aw bU<$>aJ<*>(aV fX<$>aJ<*>aA 0)))<*>aJ)<*>aJ)<*>aJ) (λ_ _=>rfl))))>=>aD))) hW3); ?_);refine(let W1:TS:=_; have hW1:aO XX ((aP fk).drop 1) W1:=(aI (pS 3 gA.nd (aV bD<$>aA 0<*>aJ)) hW2); ?_);let#[c,mn,rfl,hmn,q]:=h;show#[_,(aI (pS 2 gA.nd ah) hW1),?_];have b8:=ge c 8 #[];let#[sz,es]:=Iv b8.1;have s8:sz<8:=by lia
   have lf:K12.lets.length<=sizeLine:=by decide +kernel
   show#[83,(show(0:Int)<8 by decide),?_];show#[53,∅,∅,λu hu=>GE (λi=>V.str (tx [lc (c * (48271+2 * (0+(i:Int)))%2147483647 / 9%26)])) ∅ hu ?_ ?_]
   . rintro i H2 Rr hi s2 hR;have bi:=ge (c * (48271+2 * (0+(i:Int)))%2147483647 / 9) 26 #[];show#[1363,.inl #[#[],#[]],307,.inr #[∅,∅],19,(show(0:Int)<2147483647 by decide),19,#[#[],#[]],19,(show(0:Int)<26 by decide),35,lf,uW bi.1 bi.2,hR]
   rintro H2 s2 e2;have en:(c%8).toNat=sz:=by lia
   rw[en] at e2;have e3:((List.range sz).map λi:Nat=>V.str (tx [lc (c * (48271+2 * (0+(i:Int)))%2147483647 / 9%26)]))=(((List.range sz).map λi:Nat=>[lc (c * (48271+2 * (0+(i:Int)))%2147483647 / 9%26)]).map tx).map V.str:=by rw[Iq,Iq];rfl
   rw[e3] at e2;have so:∀l:List Nat,(((l.map λi:Nat=>[lc (c * (48271+2 * (0+(i:Int)))%2147483647 / 9%26)]).map tx).map (·.length)).sum=l.length:=λl=>by
     induction l with
     | nil=>rfl
     | cons x l ih=>rw[IF,IF,IF,Kz,ih,dW,II]; simp; lia
   have fo:∀l:List Nat,(l.map λi:Nat=>[lc (c * (48271+2 * (0+(i:Int)))%2147483647 / 9%26)]).flatten=l.map λi:Nat=>lc (c * (48271+2 * (0+(i:Int)))%2147483647 / 9%26):=λl=>by
     induction l with
     | nil=>rfl
     | cons x l ih=>rw[IF,J2,ih]; rfl
   show#[_,u,11,aE.of e2,(by rw[so,JY,HS,HS,JY]; show sz+sz * 0<=16777216; lia),?_];rw[qw,fo];have hWl:((List.range sz).map λi:Nat=>lc (c * (48271+2 * (0+(i:Int)))%2147483647 / 9%26)).length=sz:=by rw[HS,JY]
   have hWm:∀x∈((List.range sz).map λi:Nat=>lc (c * (48271+2 * (0+(i:Int)))%2147483647 / 9%26)),x∈K12.lets.cps.toList:=λx hx=>by let#[i,_,rfl]:=IJ.mp hx;have bi:=ge (c * (48271+2 * (0+(i:Int)))%2147483647 / 9) 26 #[];exact uC bi.1 bi.2
   generalize ((List.range sz).map λi:Nat=>lc (c * (48271+2 * (0+(i:Int)))%2147483647 / 9%26))=W at hWl hWm ⊢;have wf:(tx W).length<=sizeLine:=by rw[dW]; exact gG ∅
   have ba:=ge (c / 8) (c%8+1) ∅;let#[a,ea]:=Iv ba.1;have aW:a<=W.length:=by lia
   show#[83,#[#[],#[]],1331,(by show(0:Int)<c%8+1; lia),?_];show#[cH,λl hl=>?_];have hlH:H l=none:=s2.free hl;show#[21,∅,∅,?_];refine(let Jv1:Nat->St->Hp->Prop:=λi σ H3=>aB H H3/\(∃v7 v8,σ=[⇑(.int c),⇑(.int mn),⇑(.str K12.lets),⇑(.int (c%8)),⇑(.str (tx W)),⇑(.int (c / 8%(c%8+1))),⇑↥l,v7,v8])/\H3 l=⇑(.lst (((List.range i).map (nmk W a (c / 64))).map V.str)); eR (lo:=0) (n:=mn) Jv1 #[s2\(aB.new hl),#[9],aH] ?_ ?_)
   . rintro i σ H3 hi ⟨s3,⟨v7,v8,rfl⟩,e3⟩;have bi:=ge (c / 64+(0+(i:Int))) 26 #[];have ei:(c / 64+(0+(i:Int)))%26=(c / 64+(i:Int))%26:=by rw[Io]
     show#[341,wf,?_];rw[show(⇑(c / 8%(c%8+1)):Hl Int)=⇑((a:Nat):Int) by rw[ea],tx_to aW];show#[339,#[#[],#[]],1331,(show(0:Int)<26 by decide),35,lf,uW bi.1 bi.2,?_];show#[19,(by rw[dW,IE]; exact gG (by show min a W.length+1<1000000; lia)),?_];show#[341,wf,?_];rw[show(⇑(c / 8%(c%8+1)):Hl Int)=⇑((a:Nat):Int) by rw[ea],Ad aW];have eB:tx (W.take a)++(⟨(List.toArray [lc ((c / 64+(0+(i:Int)))%26)])⟩:Str)++tx (W.drop a)=tx (db W a (c / 64) i):=by rw[show(#[(List.toArray [lc ((c / 64+(0+(i:Int)))%26)])]:Str)=tx [lc ((c / 64+(0+(i:Int)))%26)] from rfl,lB,lB,ei];rfl
     have bl:=bse_len W a (c / 64) i;show#[19,?_,?_]
     . rw[show(#[(List.toArray [lc ((c / 64+(0+(i:Int)))%26)])]:Str)=tx [lc ((c / 64+(0+(i:Int)))%26)] from rfl,lB,dW,dW,HZ,IE,J5];exact gG (by simp; lia)
     rw[eB];show#[5,(by show 12<=sizeLine; decide),λtl htl=>#[tl,5,.inl (aE.of aH),rfl,0x4,5,?_]];have s4:=s3\(aB.new (o:=.lst jF) htl);have e4:=aB.new (o:=.lst jF) htl _ _ e3;have nx:∀s:Str,s=nmk W a (c / 64) i->aB H (upd (upd H3 tl (.lst jF)) l (.lst (((List.range i).map (nmk W a (c / 64))).map V.str++[V.str s])))/\(upd (upd H3 tl (.lst jF)) l (.lst (((List.range i).map (nmk W a (c / 64))).map V.str++[V.str s]))) l=⇑(.lst (((List.range (i+1)).map (nmk W a (c / 64))).map V.str)):=λs hs=>by show#[s4.upd hlH,?_];rw[aH,hs,Ju,Hq,Hq];rfl
     have fitl:(((List.range i).map (nmk W a (c / 64))).map V.str).length<sizeLine:=by rw[HS,HS,JY]; exact w4 ∅
     by_cases ht:eP (.str (tx (db W a (c / 64) i))) jF=true
     . have en:tx (db W a (c / 64) i)++("x":Str)=nmk W a (c / 64) i:=by unfold nmk;rw[He ht];exact lB _ [120]
       refine ag ht #[83,(by rw[dW,bl]; exact gG (by show W.length+1+1<1000000; lia)),?_];let#[x1,x2]:=nx _ en;show#[5,.inl #[6,aE.of e4],5,l,19,e4,fitl,x1,#[9],x2]
     . have en:tx (db W a (c / 64) i)=nmk W a (c / 64) i:=by unfold nmk;rw[HX ht]
       refine aa ht ?_;let#[x1,x2]:=nx _ en;show#[5,.inl #[6,aE.of e4],5,l,19,e4,fitl,x1,#[9],x2]
   . rintro σ H3 ⟨s3,⟨v7,v8,rfl⟩,e3⟩;show#[5,q _ (by rw[HS,JY]) ?_ (λw hw=>?_) (λw hw=>?_) l H3 s3 hlH e3]
     . exact List.pairwise_map.mpr (List.Pairwise.imp_of_mem (λ{x y} hx hy hne h=>hne (zU (by have:=KR.mp hx; lia) (by have:=KR.mp hy; lia) h)) List.nodup_range)
     . let#[k,_,rfl]:=IJ.mp hw;exact Er hWm ∅
     . let#[k,_,rfl]:=IJ.mp hw;exact Cw.nmk_ne
end
end K38
namespace K38
open PySem L2 K21 Rk2
section
variable {P:Program} {w:World} {K:L7} {mg:Str->Hl K'} {base:Heap} {t:Adr}
def uE:FnScope ["_law_one","_law_boxes"] ["_law_one","_law_boxes"] (aS nv):=by walk_at "s"
def pB (T:Txt K mg t):∀n,FnOk P w K mg base CX0 (n+1) t.lN t.lQ ["_law_one","_law_boxes"] (ny K n)
| 0=>T.jW.F.ok uE (λvs H Q E h=>by let#[tr,v,d,kvs,rfl,hd,hR,hD,dv,ok,q]:=h; exact absurd hd (Ir _)) (λcdv A outer s H vs Q E hr h=>by let#[tr,v,d,kvs,rfl,hd,hR,hD,dv,ok,q]:=h; exact absurd hd (Ir _))
| n+1=>by
 have QW:=GS (P:=P) (w:=w) (base:=base) T;have Qe:FnOk P w K mg base CX0 (n+1) t.lN t.lQ ["_law_one","_law_boxes"] (ny K n):=pB T n;refine T.jW.F.ok uE (λvs H Q E h=>?_) (λcdv A outer s H vs Q E hr h=>?_)
 . let#[_,_,_,_,rfl,_]:=h;rfl
 . let#[tr,v,d,kvs,rfl,hd,hR,hD,dv,ok,q]:=h;show#[_,(aI (ae (aj ay (iT K (aA 0)) ah (af _)) (~~~(qO (bV hr.units) (aA 1) (iT K (aA 0)) aJ #[31])) ac) (aI (ae (aj ay (iT K (aA 0)) ah (af _)) (~~~(iT K (aA 0))) ac) (~~~(fe T.zN QW (hr.mono ∅) ((iT K (aA 0))>=>(fe T.jW Qe (hr.mono ∅) ((iT K (aA 0))>=>aA 1>=>aD))>=>(fe T.jW Qe (hr.mono ∅) ((iT K (aA 0))>=>aA 1>=>aD))>=>aD))))),?_];cases tr with
   | box k =>
     let#[p,rfl,e]:=hR;show#[5,p,35,aG.of e,bR,13,ag (Hf rfl) ?_];show#[5,d,rfl,.inl #[kvs,.inl hD],5,p,35,aG.of e,6,cr.k (k:=Sum.inl k) hD,vq (wM dv k) q]
   | num k =>
     let#[p,rfl,e]:=hR;show#[5,p,35,aG.of e,bR,13,aa (λz=>BJ 0xC) ?_];show#[5,p,35,aG.of e,bR,13,ag (Hf rfl) #[5,p,35,aG.of e,rfl,q]]
   | op s l r =>
     let#[p,x,y,rfl,e,n1,n2,hx,hy]:=hR;have d1:dp l<n:=by have:max (dp l) (dp r)+1<n+1:=hd; lia
     have d2:dp r<n:=by have:max (dp l) (dp r)+1<n+1:=hd; lia
     let#[o1,o2]:=oN ok;have b1:=iM (ki dv) o1;have b2:=iM (ki dv) o2;show#[5,p,35,aG.of e,bR,13,aa (λz=>n1 0xC) ?_];show#[5,p,35,aG.of e,bR,13,aa (λz=>n2 0xC) ?_];show#[5,p,35,aG.of e,bR,5,p,35,aG.of e,13,l,x,d,kvs,rfl,d1,hx,hD,dv,o1,5,p,35,aG.of e,13,r,y,d,kvs,rfl,d2,hy,hD,dv,o2,s,9,b1.1,b2.1,b1.2,b2.2,q]
end
end K38
namespace K38
open PySem L2 K21 Rk2 Bg
section
variable {P:Program} {w:World} {K:L7} {mg:Str->Hl K'} {base:Heap} {t:Adr}
def fS:FnScope ["_law_cell","_law_boxes","_law_one","_law_k","_law_number_here","_law_sign","_law_other"] ["_law_cell","_law_boxes"] (aS gv):=by walk_at "s"
def vc (T:Txt K mg t):FnOk P w K mg base CX0 1 t.xl t.yz ["_law_cell","_law_boxes"] (GI K):=by
 refine T.rT.F.ok fS (λvs H Q E h=>?_) (λcdv A outer s H vs Q E hr h=>?_)
 . let#[_,_,_,rfl,_]:=h;rfl
 . skip
   refine lx ?_;intro XX;refine(let W3:TS:=_; have hW3:aO XX ((aP gv).drop 3) W3:=(~~~(aA 2)); ?_);refine(let W2:TS:=_; have hW2:aO XX ((aP gv).drop 2) W2:=(aI (bq PassesOwn.never rfl (ci rfl T.b_range ((iY K (bE ((aV bD<$>(aV cG<$>aA 0<*>aJ)<*>aJ)>=>aJ>=>aD)) (de qK 0x0 T.b_int oC ((gR ay (aV bD<$>(aV cG<$>aA 0<*>aJ)<*>aJ) aJ (af _))>=>aD)))>=>aD)) (aY (i:=3) fS.nd rfl 0x5) (aI (pS 4 fS.nd (aV cG<$>(aV bD<$>(aV fX<$>aA 0<*>(aw bU<$>aJ<*>(aV fX<$>aJ<*>aA 3)))<*>aJ)<*>aJ)) (aI (pS 5 fS.nd (cB pz ah (aV bD<$>(aV cG<$>aA 4<*>aJ)<*>aJ) (λ_ _=>rfl))) (aI (pS 6 fS.nd (bA (ah>=>(iY K (aA 1) (aV bD<$>(aV cG<$>aA 4<*>aJ)<*>(ax 0x1 0x0 T.b_len bQ (aA 1>=>aD))))>=>aD))) (aI (ae (aj ay (aV bD<$>(aV cG<$>aA 4<*>aJ)<*>aJ) aJ (af _)) (@aK _ _ _ (pS 6 fS.nd (bA (ah>=>(aV bD<$>(aV cG<$>aA 4<*>aJ)<*>aJ)>=>aD)))) ac) (@aK _ _ _ (ae (aj ay (aV bD<$>aA 4<*>aJ) aJ (af _)) (@aK _ _ _ (pS 2 fS.nd (bA (aA 5>=>aA 2>=>aA 6>=>aD)))) (@aK _ _ _ (pS 2 fS.nd (bA (aA 5>=>aA 6>=>aA 2>=>aD))))))))))) hW3); ?_);refine(let W1:TS:=_; have hW1:aO XX ((aP gv).drop 1) W1:=(gT (ae (aj (aw GZ) (aV bD<$>aA 0<*>aJ) aJ (af _)) (@aK _ _ _ (pS 2 fS.nd (bA (ah>=>(iY K (aA 1) (aV bD<$>(aV cG<$>aA 0<*>aJ)<*>(ax 0x1 0x0 T.b_len bQ (aA 1>=>aD))))>=>aD)))) ac) hW2); ?_);let#[c,bl,bs,rfl,hB,hbs,q]:=h;show#[_,(aI (pS 2 fS.nd (bA (ah>=>(aV bD<$>(aV cG<$>aA 0<*>aJ)<*>(aV iw<$>aJ<*>aJ))>=>aD))) hW1),?_];have b5:=emod_bd' (c / 5) ((2:Int) ^ (48:Int).toNat) jT;rw[gz] at b5;show#[83,#[#[],#[]],19,#[#[],#[],#[]],19,jT,bH,λa0 k0=>?_];show#[λσ' G=>∃tr v,σ'=[⇑(.int c),⇑↥bl,⇑v,none,none,none,none]/\aB H G/\RAt G tr v/\TOk' 0 tr,?_,?_]
   . show#[83,(show(0:Int)<5 by decide),77,?_];by_cases h5:c%5 > 0
     . let#[b,e1,e2,e3]:=bx_at hbs (c / 5);refine ag (Hf h5) #[339,#[#[],#[]],5,bl,5,.inl ((aB.new k0).seq hB),19,e1,bl,35,(aB.new k0).seq hB,e2,bH,λa1 k1=>#[.box b,5,(aB.new k0)\(aB.new k1),#[a1,rfl,aH],sj e3]]
     . exact aa (by rw[JX]; exact h5) #[.num (c / 5%(2:Int) ^ (48:Int).toNat),5,aB.new k0,#[a0,rfl,aH],(by rw[gz]; exact rW b5.1 b5.2)]
   rintro σ' G ⟨tr0,v0,rfl,s0,r0,t0⟩;have b3:=emod_bd' (c / 40) 3 #[];obtain⟨bb,hbb⟩:∃b:Bool,decide (V.int (c / 120%8)=V.int 1)=b:=#[5]
   obtain⟨nn,hnn,hn7⟩:∃nn:Nat,am [V.int (c / 40%3),V.int 7] (if bb=true then 1 else 0)=⇑(.int nn)/\nn<=7:=by
     cases bb with
     | true=>show#[(7),rfl,HY _]
     | false=>show#[(c / 40%3).toNat,by rw[Int.toNat_of_nonneg b3.1]; rfl,∅]
   show#[83,#[#[],#[]],19,(show(0:Int)<3 by decide),bH,λLb hLb=>?_];have s0:=s0\(aB.new (o:=.lst [V.int (c / 40%3),V.int 7]) hLb);have r0:=r0*>(aB.new (o:=.lst [V.int (c / 40%3),V.int 7]) hLb);show#[83,#[#[],#[]],19,(show(0:Int)<8 by decide),rfl,?_];rw[hbb];refine .inr #[bb,rfl,Lb,35,aE.of aH,hnn,5,∅,∅,(let Jv1:Nat->St->Hp->Prop:=λi σ H2=>∃tr v v3 v4 v5 v6,σ=[⇑(.int c),⇑↥bl,⇑v,v3,v4,v5,v6]/\aB H H2/\RAt H2 tr v/\TOk' i tr; eR (lo:=0) (n:=nn) Jv1 #[tr0,v0,33,s0,r0,t0] ?_ ?_)]
   . rintro i σ H2 hi ⟨tr,v,v3,v4,v5,v6,rfl,s1,r1,t1⟩;obtain⟨fc,hfc⟩:∃fc,(48271:Int)+2 * (0+(i:Int))=fc:=#[5]
     show#[339,.inr #[∅,∅],307,.inr #[∅,∅],19,(show(0:Int)<2147483647 by decide),19,#[#[],#[]],?_];rw[hfc];have s2:=s1;have r2:=r1;generalize H2=G2 at s2 r2 ⊢;let#[ch,hch]:=Bb (i:=c * fc%2147483647 / 3 / 2%9) (JT _ #[]) (JN _ #[]);have oc:=Ax ch;show#[83,#[#[],#[]],19,(show(0:Int)<9 by decide),4,ch,7,DG,hch,?_];let#[b,e1,e2,e3]:=bx_at hbs (c * fc%2147483647 / 3 / 18);show#[339,#[#[],#[]],5,bl,5,.inl (s2.seq hB),19,e1,bl,35,s2.seq hB,e2,bH,λa2 k2=>?_];show#[83,#[#[],#[]],19,(show(0:Int)<4 by decide),13,?_];by_cases h4:c * fc%2147483647 / 3 / 144%4=0
     . have b9:=emod_bd' (c * fc%2147483647 / 3 / 576) 9 #[];refine ag (Hf (Hr V.int h4)) #[83,#[#[],#[]],19,(show(0:Int)<9 by decide),bH,λa3 k3=>?_];have s13:=(aB.new (o:=.tup [V.str "box",V.int b]) k2)\(aB.new (o:=.tup [V.str "num",V.int (c * fc%2147483647 / 3 / 576%9)]) k3);have s3:=s2\s13;have r3:RAt (upd (upd G2 a2 (.tup [V.str "box",V.int b])) a3 (.tup [V.str "num",V.int (c * fc%2147483647 / 3 / 576%9)])) (.num (c * fc%2147483647 / 3 / 576%9)) ↥a3:=#[a3,rfl,aH]
       have t3:TOk' i (.num (c * fc%2147483647 / 3 / 576%9)):=rW b9.1 (Int.lt_trans b9.2 #[]);have r1:=r2;show#[83,(show(0:Int)<2 by decide),13,?_];by_cases h2:c * fc%2147483647 / 3%2=0
       . refine ag (Hf (Hr V.int h2)) #[85,dY,λa4 k4=>?_];show#[.op #[(List.toArray [ch])] tr (.num (c * fc%2147483647 / 3 / 576%9)),65,s3\(aB.new k4),#[a4,9,aH,oc.1,oc.2,(r1*>s13).mono (aB.new k4),r3*>(aB.new k4)],nQ (mR hch) t1 t3]
       . refine aa (λz=>h2 (V.int.inj (bC z))) #[85,dY,λa4 k4=>?_];show#[.op #[(List.toArray [ch])] (.num (c * fc%2147483647 / 3 / 576%9)) tr,65,s3\(aB.new k4),#[a4,9,aH,oc.1,oc.2,r3*>(aB.new k4),(r1*>s13).mono (aB.new k4)],nQ (mR hch) t3 t1]
     . have s13:=aB.new (o:=.tup [V.str "box",V.int b]) k2;have s3:=s2\s13;have r3:RAt (upd G2 a2 (.tup [V.str "box",V.int b])) (.box b) ↥a2:=#[a2,rfl,aH]
       have t3:TOk' i (.box b):=sj e3;have r1:=r2;refine aa (λz=>h4 (V.int.inj (bC z))) #[83,(show(0:Int)<2 by decide),13,?_];by_cases h2:c * fc%2147483647 / 3%2=0
       . refine ag (Hf (Hr V.int h2)) #[85,dY,λa4 k4=>?_];show#[.op #[(List.toArray [ch])] tr (.box b),65,s3\(aB.new k4),#[a4,9,aH,oc.1,oc.2,(r1*>s13).mono (aB.new k4),r3*>(aB.new k4)],nQ (mR hch) t1 t3]
       . refine aa (λz=>h2 (V.int.inj (bC z))) #[85,dY,λa4 k4=>?_];show#[.op #[(List.toArray [ch])] (.box b) tr,65,s3\(aB.new k4),#[a4,9,aH,oc.1,oc.2,r3*>(aB.new k4),(r1*>s13).mono (aB.new k4)],nQ (mR hch) t3 t1]
   . rintro σ H2 ⟨tr,v,v3,v4,v5,v6,rfl,s1,r1,t1⟩;show#[5,q tr v H2 s1 r1 #[t1.1,t1.2.1,Hu t1.2.2.1 ∅,t1.2.2.2]]
end
end K38
namespace K38
open PySem L2 K21 Rk2
section
variable {P:Program} {w:World} {K:L7} {mg:Str->Hl K'} {base:Heap} {t:Adr}
def uy:FnScope ["_law_found","_law_due"] ["_law_found","_law_due"] (aS jm):=by walk_at "s"
def qR (T:Txt K mg t):∀n,FnOk P w K mg base CX0 (n+1) t.lL t.lP ["_law_found","_law_due"] (nT K n)
| 0=>T.jV.F.ok uy (λvs H Q E h=>by let#[tr,x,y,rfl,hd,h1,h2,q]:=h; exact absurd hd (Ir _)) (λcdv A outer s H vs Q E hr h=>by let#[tr,x,y,rfl,hd,h1,h2,q]:=h; exact absurd hd (Ir _))
| n+1=>by
 have Qf:FnOk P w K mg base CX0 (n+1) t.lL t.lP ["_law_found","_law_due"] (nT K n):=qR T n;have Qb:=nI (P:=P) (w:=w) (base:=base) T;refine T.jV.F.ok uy (λvs H Q E h=>?_) (λcdv A outer s H vs Q E hr h=>?_)
 . let#[_,_,_,rfl,_]:=h;rfl
 . skip
   refine lx ?_;intro XX;refine(let W2:TS:=_; have hW2:aO XX ((aP jm).drop 2) W2:=(aI (ae (aj ay (ax 0x1 0x0 T.b_len bQ (aA 1>=>aD)) aJ (af _)) (~~~(g7 (fe T.lT Qb (hr.mono ∅) ((iT K (aA 0))>=>aD)) (i7 (gR ay (iT K (aA 0)) (iT K (aA 1)) (af _))))) ac) (~~~(g7 (fe T.jV Qf (hr.mono ∅) ((iT K (aA 0))>=>(iT K (aA 1))>=>aD)) (i7 (fe T.jV Qf (hr.mono ∅) ((iT K (aA 0))>=>(iT K (aA 1))>=>aD)))))); ?_);let#[tr,x,y,rfl,hd,h1,h2,q]:=h;show#[_,(aI (ae (@PW.pt _ _ _ (dF (cT (cL (ax kM 0x0 T.b_isinstance dg (aA 0>=>(fw (v:=V.ty "tuple") rfl T.b_tuple gQ rfl)>=>aD)))) (dF (aj jN (ax 0x1 0x0 T.b_len bQ (aA 0>=>aD)) (ax 0x1 0x0 T.b_len bQ (aA 1>=>aD)) (af _)) (eu (cT (cL (ax kM 0x0 T.b_isinstance dg ((iT K (aA 0))>=>(fw (v:=V.ty "str") rfl T.b_str vD rfl)>=>aD)))))))) (~~~bW) ac) (aI (ae (aj jN (iT K (aA 0)) (iT K (aA 1)) (af _)) (~~~bW) ac) hW2)),?_];cases tr with
   | box k =>
     let#[p1,rfl,e1]:=h1;let#[p2,rfl,e2]:=h2;show#[40,true,rfl,.tup e1,13,eW #[5,p1,5,.inr (aG.of e1),5,p2,5,.inr (aG.of e2),13,aa (λz=>Ho z) #[5,p1,35,aG.of e1,bR,8,true,rfl,.str _,13,eW ?_]]];show#[5,p1,35,aG.of e1,bR,5,p2,35,aG.of e2,bR,13,aa 0x6 ?_];show#[5,p2,5,.inr (aG.of e2),13,?_];exact ag rfl #[5,p1,35,aG.of e1,rfl,k,13,ag rfl #[5,p1,35,aG.of e1,13,p2,35,aG.of e2,7,vq (Hr V.bl (Hf rfl)) q]]
   | num k =>
     let#[p1,rfl,e1]:=h1;let#[p2,rfl,e2]:=h2;show#[40,true,rfl,.tup e1,13,eW #[5,p1,5,.inr (aG.of e1),5,p2,5,.inr (aG.of e2),13,aa (λz=>Ho z) #[5,p1,35,aG.of e1,bR,8,true,rfl,.str _,13,eW ?_]]];show#[5,p1,35,aG.of e1,bR,5,p2,35,aG.of e2,bR,13,aa 0x6 ?_];show#[5,p2,5,.inr (aG.of e2),13,?_];exact ag rfl #[5,p1,35,aG.of e1,rfl,k,13,ag rfl #[5,p1,35,aG.of e1,13,p2,35,aG.of e2,7,vq (Hr V.bl (Hf rfl)) q]]
   | op s l r =>
     let#[p1,x1,y1,rfl,e1,a1,b1,f1,g1]:=h1;let#[p2,x2,y2,rfl,e2,a2,b2,f2,g2]:=h2;have d1:dp l<n:=by have:max (dp l) (dp r)+1<n+1:=hd; lia
     have d2:dp r<n:=by have:max (dp l) (dp r)+1<n+1:=hd; lia
     show#[40,true,rfl,.tup e1,13,eW #[5,p1,5,.inr (aG.of e1),5,p2,5,.inr (aG.of e2),13,aa (λz=>Ho z) #[5,p1,35,aG.of e1,bR,8,true,rfl,.str _,13,eW ?_]]];show#[5,p1,35,aG.of e1,bR,5,p2,35,aG.of e2,bR,13,aa 0x6 ?_];show#[5,p2,5,.inr (aG.of e2),13,?_];refine aa (λz=>Ho z) #[5,p1,35,aG.of e1,13,p2,35,aG.of e2,rfl,l,x1,x2,rfl,d1,f1,f2,5,ag rfl #[5,p1,35,aG.of e1,13,p2,35,aG.of e2,rfl,r,y1,y2,rfl,d2,g1,g2,q]]
end
end K38
namespace K38
open PySem L2 Gx Fl Cw
section
variable {P:Program} {w:World} {K:L7} {mg:Str->Hl K'} {base:Heap} {t:Adr}
def uZ:FnScope ["_law_found","_law_due","_law_frame"] ["_law_found","_law_due"] (aS io):=by walk_at "s"
def GX (T:Txt K mg t):FnOk P w K mg base CX0 2 t.xY t.yp ["_law_found","_law_due"] (DH K):=by
 have Qb:=nI (P:=P) (w:=w) (base:=base) T;refine T.zJ.F.ok uZ (λvs H Q E h=>?_) (λcdv A outer s H vs Q E hr h=>?_)
 . let#[_,_,_,_,_,rfl,_]:=h;rfl
 . skip
   refine lx ?_;intro XX;refine(let W2:TS:=_; have hW2:aO XX ((aP io).drop 2) W2:=(~~~(gR (AC hr.units) (aA 0) (aA 1) (af _))); ?_);refine(let W1:TS:=_; have hW1:aO XX ((aP io).drop 1) W1:=(aI (bq PassesOwn.never rfl (d6 (aA 0)) (aY (i:=2) uZ.nd rfl 0x5) (@aK _ _ _ (ae (@PW.pt _ _ _ (dF (cT (cL (ax nh 0x0 T.b_isinstance dg (aA 2>=>(fw (v:=V.ty "tuple") rfl T.b_tuple gQ rfl)>=>aD)))) (dF (aj jN (ax 0x1 0x0 T.b_len bQ (aA 2>=>aD)) aJ (af _)) (eu (cT (cL (cD T.lT Qb hr ((iT K (aA 2))>=>aD)))))))) (~~~bW) ac))) hW2); ?_);let#[l1,l2,us,ws,ch,rfl,h1,h2,p1,p2,ok,q]:=h;show#[_,(aI (ae (@PW.pt _ _ _ (dF (cT (cL (ax nh 0x0 T.b_isinstance dg (aA 0>=>(fw (v:=V.ty "list") rfl T.b_list j5 rfl)>=>aD)))) (eu (aj jN (ax 0x1 0x0 T.b_len bQ (aA 0>=>aD)) (ax 0x1 0x0 T.b_len bQ (aA 1>=>aD)) (af _))))) (~~~bW) ac) hW1),?_];have lu:=Rk2.Ps.len p1;have lw:=Rk2.Ps.len p2;show#[10,"list",_,true,rfl,.lst h1,13,iN #[5,l1,5,.inl h1,5,l2,5,.inl h2,13,aa (by rw[lu,lw]; simp) ?_]];show#[5,l1,rfl,#[_,h1],(let Jv1:Nat->St->Hp->Prop:=λi σ H2=>H2=H/\∃v2,σ=[⇑↥l1,⇑↥l2,v2]; gB (xs:=us) Jv1 #[13] ?_ ?_ ?_)]
   . rintro i σ H2 hi ⟨rfl,_⟩;exact h1
   . rintro i x σ H2 hx ⟨rfl,v2,rfl⟩;have hi:i<ch.length:=by have:=(HV.mp hx).1; lia
     let#[v,hv,qa,rfl,hq]:=bt p1 (HU hi);rw[hx] at hv;cases hv;show#[10,"tuple",_,true,rfl,.tup hq,13,iN #[5,qa,5,.inr hq,13,aa (show ¬ (!decide (V.int ((2:Nat):Int)=V.int 2))=true by decide) #[5,qa,35,hq,53,iN #[13]]]]
   . rintro σ H2 ⟨rfl,v2,rfl⟩;show#[21,(Bg.Twin.lst h1 h2 (sN p1 p2 ok)).eq #[] q]
def uM:FnScope ["_law_own","_law_names_here","_law_many","_law_rows"] ["_law_own","_law_names_here","_law_many"] (aS km):=by walk_at "s"
def CP (T:Txt K mg t):FnOk P w K mg base CX0 1 t.xZ t.yq ["_law_own","_law_names_here","_law_many"] (Ao K):=by
 refine T.zK.F.ok uM (λvs H Q E h=>?_) (λcdv A outer s H vs Q E hr h=>?_)
 . let#[_,_,_,_,rfl,_]:=h;rfl
 . skip
   refine lx ?_;intro XX;refine(let W1:TS:=_; have hW1:aO XX ((aP km).drop 1) W1:=(~~~(bA (aA 0>=>bW>=>(de jB 0x0 T.b_tuple gQ ((eM hJ (aA 1) eZ (dk (aA 2)))>=>aD))>=>(de jB 0x0 T.b_tuple gQ (aA 3>=>aD))>=>aD))); ?_);let#[own,nl,ws,m,rfl,hn,ne,l8,nd,nm,m7,q]:=h;show#[_,(aI (pS 3 uM.nd (nc<$>(dL (N':=["_law_name"]) (js:=[none]) (by kernel_rfl) rfl (d6 (eM hJ (aA 1) (dk (aA 2)) eZ)) dD (λ_ _ _ _=>(aY (i:=0) (show(["_law_name"]:List Str).Nodup by decide +kernel) rfl 0x5 (.inr rfl))) (λ_ _ _ _=>cj) (λ_ _ _ _=>(bA (ah>=>aA 0>=>aJ>=>aD))))<*>(bE ((bA (ah>=>(iL K (aA 1))>=>aD))>=>(bA (ah>=>aJ>=>aD))>=>aD)))) hW1),?_];obtain⟨lst,hat,hlm⟩:∃lst,am (ws.map V.str) 0=⇑(.str lst)/\lst∈ws:=by
     cases ws with
     | nil=>exact absurd rfl ne
     | cons x xs=>show#[x,(show am _ ((0:Nat):Int)=_ from bp rfl),Hj]
   show#[85,nl,5,hn,λsl hsl=>?_];rw[zx,<- List.map_drop];have s1:=aB.new (o:=.lst ((ws.drop m).map V.str)) hsl;have e1:=aE.of (K:=K) (aH (H:=H) (a:=sl) (o:=.lst ((ws.drop m).map V.str)));generalize upd H sl (.lst ((ws.drop m).map V.str))=H1 at s1 e1 ⊢;show#[sl,rfl,#[_,e1],λpL hpL=>hV (K:=K) (λi G v=>∃q n,(ws.drop m)[i]?=⇑n/\v=↥q/\aG K G q [.str "copy",.str n,.int 0]) (λ_ _ _ _ z z224_=>by let#[q,n,z1,z2,z3]:=z224_; show#[q,n,z1,z2,z<*z3]) (by rw[HS,J5]; lia) e1 hpL ?_ ?_]
   . rintro i x G R_ hx sG ⟨acc,eacc⟩ kk;have hi:i<(ws.drop m).length:=by have:=(HV.mp hx).1; rwa [HS] at this
     rw[Hk,HU hi] at hx;cases hx;show#[5,dY,λb hb=>kk _ _ (aB.new hb) #[b,_,HU hi,rfl,aG.of ?_]];rw[ak λz=>by rw[z,eacc] at hb; cases hb];exact aH
   . rintro H3 vs s3 e3 l3 t3;rw[HS] at l3;have s13:=s1\s3;show#[5,nl,35,s13.seq hn,hat,bH,λc hc=>#[bH,λb hb=>#[bH,λl2 hl2=>?_]]];have sc:=aB.new (o:=.tup [.str "out",.str lst]) hc;have ec:=aG.of (K:=K) (aH (H:=H3) (a:=c) (o:=.tup [.str "out",.str lst]));generalize upd H3 c (.tup [.str "out",.str lst])=H4 at sc ec hb hl2 ⊢;have sb:=aB.new (o:=.tup [.str "back",.int 0]) hb;have eb:=aG.of (K:=K) (aH (H:=H4) (a:=b) (o:=.tup [.str "back",.int 0]));generalize upd H4 b (.tup [.str "back",.int 0])=H5 at sb eb hl2 ⊢;have s5:=sc\sb;have s6:=aB.new (o:=.lst [↥c,↥b]) hl2;show#[pL,l2,19,(s5\s6) _ _ e3,aH,fC (by rw[J5] at l3; show vs.length+2<_; lia),λp hp=>?_];have s7:=s6\(aB.new (o:=.lst (vs++[↥c,↥b])) hp);have e7:=aE.of (K:=K) (aH (H:=upd H5 l2 (.lst [↥c,↥b])) (a:=p) (o:=.lst (vs++[↥c,↥b])));generalize upd (upd H5 l2 (.lst [↥c,↥b])) p (.lst (vs++[↥c,↥b]))=H7 at s7 e7 ⊢;have s57:=s5\s7;show#[341,nl,5,(s13\s57).seq hn,λx8 h8=>?_];rw[pR,<- List.map_take];have s8:=aB.new (o:=.lst ((ws.take m).map V.str)) h8;show#[x8,5,.inl #[aE.of aH,λqC hqC=>?_]];have s9:=s8\(aB.new (o:=.tup ((ws.take m).map V.str)) hqC);have e9:=aG.of (K:=K) (aH (H:=upd H7 x8 (.lst ((ws.take m).map V.str))) (a:=qC) (o:=.tup ((ws.take m).map V.str)));generalize upd (upd H7 x8 (.lst ((ws.take m).map V.str))) qC (.tup ((ws.take m).map V.str))=H9 at s9 e9 ⊢;show#[5,p,5,.inl #[s9.seq e7,λtr htr=>#[gF,λfa hfa=>?_]]];have s10:=aB.new (o:=.tup (vs++[↥c,↥b])) htr;have s11:=aB.new (o:=.tup [.str own,.bl false,↥qC,↥tr]) hfa;have sA:=s9\(s10\s11);have npd:∀{q:L6} {xs:List V},aG K (ers pL H3) q xs->aG K H3 q xs:=λz=>bK<*z;let#[la,rfl,ela,hla]:=rj (K:=K) (G:=H3) l3 λi v hv=>by let#[q,n,z1,z2,z3]:=t3 i v hv;show#[q,n,z1,z2,npd z3]
     have eAll:ws.take m++la.map (·.2)=ws:=by rw[ela]; exact List.take_append_drop m ws
     let#[F,f1,rfl,f3,f4,f5,f6]:=Gp (K:=K) (ps:=ws.take m) (lst:=lst) (fo:=.bl false) la (aG.of aH) (s11<*(aG.of aH)) ((s10\s11)<*e9) (λx hx=>(s57\sA)<*(hla x hx)) (((sb\s7).trans sA)<*ec) ((s7\sA)<*eb) (by rw[eAll]; exact nd) (by rw[eAll]; exact hlm) (by rw[eAll]; exact nm) (by rw[eAll]; lia);exact q F _ ((s13\s57).trans sA) f1 f3 (f4\eAll) (f5\(by rw[IE]; lia)) (f6\(by rw[eAll]))
def fG:FnScope ["_law_cell","_law_program","_law_first","_law_boxes","_law_chain","_law_views","_law_count","_law_k","_law_at","_law_rows","_law_view","_law_j","_law_number_here"] ["_law_cell","_law_program","_law_first","_law_boxes"] (aS jC):=by walk_at "s"
def G0 (T:Txt K mg t):FnOk P w K mg base CX0 2 t.xf t.yr ["_law_cell","_law_program","_law_first","_law_boxes"] (DS K):=by
 have Qx:=vc (P:=P) (w:=w) (base:=base) T;refine T.zL.F.ok fG (λvs H Q E h=>?_) (λcdv A outer s H vs Q E hr h=>?_)
 . let#[_,_,_,_,_,_,rfl,_]:=h;rfl
 . skip
   refine lx ?_;intro XX;refine(let W4:TS:=_; have hW4:aO XX ((aP jC).drop 4) W4:=(~~~(bA ((de jB 0x0 T.b_tuple gQ (aA 4>=>aD))>=>aA 5>=>aD))); ?_);refine(let W2:TS:=_; have hW2:aO XX ((aP jC).drop 2) W2:=(aI (pS 6 fG.nd aJ) (aI (bq PassesOwn.never rfl (ci rfl T.b_range ((aw bU<$>aJ<*>(aV bD<$>aA 0<*>aJ))>=>aD)) (aY (i:=7) fG.nd rfl 0x5) (aI (pS 8 fG.nd (iY K (bE (aA 2>=>(aV bD<$>(aV cG<$>aA 0<*>aJ)<*>aJ)>=>(aV bD<$>(aV cG<$>aA 0<*>aJ)<*>aJ)>=>aD)) (aA 7))) (aI (pS 9 fG.nd (iT K (iY K (aA 1) (aA 8)))) (aI (@bS _ _ _ _ (cQ Ht IK IL fY (aA 4) ((bA ((iT K (iY K (aA 1) (aA 8)))>=>(aV bD<$>(aV cG<$>(aV bD<$>(aV fX<$>aA 0<*>(aw bU<$>aJ<*>(aV fX<$>aJ<*>aA 7)))<*>aJ)<*>aJ)<*>(ax 0x1 0x0 T.b_len bQ (aA 9>=>aD)))>=>aD))>=>aD)) 0x0) (aI (pS 10 fG.nd (bE aD)) (aI (bq PassesOwn.never rfl (ci rfl T.b_range ((aw g9<$>(aw bU<$>(ax 0x1 0x0 T.b_len bQ ((iT K (iY K (aA 1) (aA 8)))>=>aD))<*>(ax 0x1 0x0 T.b_len bQ (aA 9>=>aD)))<*>aJ)>=>aD)) (aY (i:=11) fG.nd rfl 0x5) (aI (pS 6 fG.nd (aw bU<$>aA 6<*>aJ)) (aI (pS 12 fG.nd (aV cG<$>(aV bD<$>(aV fX<$>aA 0<*>(aw bU<$>aJ<*>(aV fX<$>aJ<*>aA 6)))<*>aJ)<*>aJ)) (aI (@bS _ _ _ _ (cQ Ht IK IL fY (aA 10) ((cD T.rT Qx hr ((aV cG<$>aA 12<*>aJ)>=>aA 3>=>aD))>=>aD)) 0x0) (@aK _ _ _ (ae (aj ay (aV bD<$>aA 12<*>aJ) aJ (af _)) (@aK _ _ _ (gS eE (j' (aA 10) (eS fB aJ) jv))) ac)))))) (@aK _ _ _ (@bS _ _ _ _ (cQ Ht IK IL fY (aA 5) (aA 10>=>aD)) 0x0)))))))) hW4)); ?_);let#[c,pl,bl,fns,fi,bs,rfl,hpl,l3,hfn,f3,hB,hbs,q]:=h;show#[_,(aI (pS 4 fG.nd (bE aD)) (aI (pS 5 fG.nd (bE aD)) hW2)),?_];show#[cH,λcl hcl=>?_];have s1:=aB.new (o:=.lst []) hcl;show#[cH,λvl hvl=>?_];have nvc:cl≠vl:=λz=>by rw[<- z,aH] at hvl; cases hvl
   have hvH:=s1.free hvl;have s2:=s1\(aB.new (o:=.lst []) hvl);have e1:upd (upd H cl (.lst [])) vl (.lst []) cl=⇑(.lst []):=by rw[aM nvc]; exact aH
   have e2:upd (upd H cl (.lst [])) vl (.lst []) vl=⇑(.lst []):=aH;generalize upd (upd H cl (.lst [])) vl (.lst [])=H1 at s2 e1 e2 ⊢;have b3:=Bg.emod_bd' c 3 #[];have hE:∀{G:Hp},aB H G->aB H (ers cl (ers vl G)):=λs=>cw (cw s hvH) hcl;show#[83,(show(0:Int)<3 by decide),77,∅,∅,(let Jv1:Nat->St->Hp->Prop:=λi σ H2=>aB H H2/\∃n6:Int,∃v7 v8 v9 v10 v11 v12 xs us ch vs,σ=[⇑(.int c),⇑↥pl,⇑(.int (fi:Nat)),⇑↥bl,⇑↥cl,⇑↥vl,⇑(.int n6),v7,v8,v9,v10,v11,v12]/\H2 cl=⇑(.lst xs)/\H2 vl=⇑(.lst us)/\Rk2.Ps (dC K (ers cl (ers vl H2))) xs ch/\Rk2.Ps (gq H (ers cl (ers vl H2))) us vs/\ch.length=i/\MkP fns ch vs/\0<=n6/\n6<=100 * i/\(0<i->∀F,fns[fi]?=⇑F->∃r,ch[0]?=⇑(F.name,r)); eR (lo:=0) (n:=(1+c%3).toNat) Jv1 #[s2,(0),64,[],[],[],[],rfl,e1,e2,trivial,trivial,rfl,#[rfl,λk p q e=>by simp at e],#[],#[],λz=>absurd z #[]] ?_ ?_)]
   . rintro i σ H2 hi ⟨s2,n6,v7,v8,v9,v10,v11,v12,xs,us,ch,vs,rfl,e1,e2,p1,p2,lch,mp,n0,n1,fst⟩;rw[Io];have lx:=Rk2.Ps.len p1;have lus:=Rk2.Ps.len p2;have lvs:=mp.len;obtain⟨a,hat,a3,ha0⟩:∃a:Nat,am [V.int (fi:Nat),V.int (c / 3%3),V.int (c / 9%3)] (i:Int)=⇑(.int a)/\a<3/\(i=0->a=fi):=by
       let#[r1,h1,h1']:=md (c / 3) 3 #[];let#[r2,h2,h2']:=md (c / 9) 3 #[];rw[h1,h2];obtain rfl|rfl|rfl:i=0\/i=1\/i=2:=by lia
       . show#[fi,rfl,f3,λ_=>rfl]
       . show#[r1,rfl,∅,λz=>by cases z]
       . show#[r2,rfl,∅,λz=>by cases z]
     obtain⟨F,hF⟩:∃F,fns[a]?=⇑F:=#[_,HU ∅]
     have hFp:am (fns.map λf=>V.ref f.fa) (a:Int)=⇑↥F.fa:=bp (by rw[Hk,hF]; rfl);have fm:=IA hF;let#[fA,fO]:=hfn F fm;have fl:=fA.len;have fr:=fO.r1;have fln:=fO.ln;show#[339,#[#[],#[]],19,(show(0:Int)<3 by decide),83,#[#[],#[]],19,(show(0:Int)<3 by decide),dY,λL3 hL3=>#[5,L3,35,aE.of aH,hat,?_]];generalize e:upd H2 L3 _=H3;have s3:=(nw e hL3).1;have k3:=s2\s3;have e1:=s3 _ _ e1;have e2:=s3 _ _ e2;have p1:=Rk2.Ps.imp (λ_ _ z=>z*>s3.ers.ers) p1;have p2:=Rk2.Ps.imp (λ_ _ z=>z*>s3.ers.ers) p2;show#[21,pl,35,k3.seq hpl,hFp,F.fa,35,k3<*fA.fn,rfl,?_];have lr:((F.rs.map λw=>V.ref w.r).length:Int)=(F.rs.length:Int):=by rw[HS]
     obtain⟨r,hr,-⟩:=md (c * (39373+2 * (i:Int))%2147483587 / 7) ((F.rs.map λw=>V.ref w.r).length:Nat) (by rw[lr]; lia);show#[5,.inl #[6,aE.of e1],21,pl,35,k3.seq hpl,hFp,F.fa,35,k3<*fA.fn,851,.inr #[∅,∅],307,.inr #[∅,∅],19,(show(0:Int)<2147483587 by decide),19,#[#[],#[]],5,F.ra,5,.inr (k3<*fA.rw_),19,(by rw[lr]; lia),bH,λb hb=>?_];rw[hr];have s4:=aB.new (o:=.tup [V.str F.name,V.int (r:Int)]) hb;have nbc:b≠cl:=λz=>by rw[z,e1] at hb; cases hb
     have nbv:b≠vl:=λz=>by rw[z,e2] at hb; cases hb
     have q4:aG K (ers cl (ers vl (upd H3 b (.tup [V.str F.name,V.int (r:Int)])))) b [V.str F.name,V.int (r:Int)]:=aG.of (by rw[ak nbc,ak nbv]; exact aH);generalize upd H3 b (.tup [V.str F.name,V.int (r:Int)])=H4 at s4 q4 ⊢;show#[cl,xs,11,s4 _ _ e1,Rk2.lt_line' ∅,?_];have k4:aB H (upd H4 cl (.lst (xs++[V.ref b]))):=(k3\s4).upd hcl;have e1':=aH (H:=H4) (a:=cl) (o:=.lst (xs++[V.ref b]));have e2':upd H4 cl (.lst (xs++[V.ref b])) vl=⇑(.lst us):=by rw[aM nvc.symm]; exact s4 _ _ e2
     have p1':Rk2.Ps (dC K (ers cl (ers vl (upd H4 cl (.lst (xs++[V.ref b])))))) (xs++[V.ref b]) (ch++[(F.name,r)]):=by
       have x:(ers cl (ers vl (upd H4 cl (.lst (xs++[V.ref b])))))=(ers cl (ers vl H4)):=by rw[j6,fW,j6]
       rw[x];exact Rk2.Ps.app (Rk2.Ps.imp (λ_ _ z=>z*>s4.ers.ers) p1) #[#[b,rfl,q4],trivial]
     have p2':Rk2.Ps (gq H (ers cl (ers vl (upd H4 cl (.lst (xs++[V.ref b])))))) us vs:=by
       have x:(ers cl (ers vl (upd H4 cl (.lst (xs++[V.ref b])))))=(ers cl (ers vl H4)):=by rw[j6,fW,j6]
       rw[x];exact Rk2.Ps.imp (λ_ _ z=>z*>s4.ers.ers) p2
     generalize upd H4 cl (.lst (xs++[V.ref b]))=H5 at k4 e1' e2' p1' p2' ⊢;clear p1 p2 e1 e2 q4 s4 s3 s2 k3 hL3;show#[cH,λwl hwl=>?_];have s6:=aB.new (o:=.lst []) hwl;have hwH:=k4.free hwl;have lp:((F.ps.map V.str).length:Int)=(F.ps.length:Int):=by rw[HS]
     have k6:=k4\s6;have hn:(((F.ps.map V.str).length:Int)+((F.rs.map λw=>V.ref w.r).length:Int) - 2).toNat=(F2.nms F).length:=by rw[lp,lr]; lia
     have n20:=fO.n1;show#[21,pl,35,k6.seq hpl,hFp,F.fa,35,k6<*fA.fn,rfl,F.pa,5,.inr (k6<*fA.pr),5,F.ra,5,.inr (k6<*fA.rw_),1229,by rw[lp,lr]; lia,by rw[lp,lr]; lia,(let Jv2:Nat->St->Hp->Prop:=λj σ H6=>aB H5 H6/\∃n7:Int,∃v11 v12 ys pls,σ=[⇑(.int c),⇑↥pl,⇑(.int (fi:Nat)),⇑↥bl,⇑↥cl,⇑↥vl,⇑(.int n7),⇑(.int (i:Int)),⇑(.int (a:Int)),⇑↥F.ra,⇑↥wl,v11,v12]/\H6 wl=⇑(.lst ys)/\Rk2.Ps (bd (ers wl H6)) ys pls/\pls.length=j/\(∀u,⇑u∈pls->dO u)/\0<=n7/\n7<=n6+j; eR (lo:=0) (n:=(((F.ps.map V.str).length:Int)+((F.rs.map λw=>V.ref w.r).length:Int) - 2).toNat) Jv2 #[s6,n6,4,[],[],rfl,aH,trivial,rfl,(λu hu=>by cases hu),n0,∅] ?_ ?_)]
     . rintro j σ H6 hj ⟨s6,n7,v11,v12,ys,pls,rfl,e6,p6,l6,ok6,n70,n71⟩;have ly:=Rk2.Ps.len p6;have k6:=k4\s6;show#[83,?_];show#[339,.inr #[∅,∅],307,.inr #[∅,∅],19,(show(0:Int)<2147483647 by decide),19,#[#[],#[]],?_];generalize c * (48271+2 * (n7+1))%2147483647 / 3=z;show#[5,.inl #[6,aE.of e6],83,#[#[],#[]],10,bl,bs,rfl,k6.seq hB,hbs,λtr v H7 s7 r7 t7=>?_];show#[wl,ys,11,s7 _ _ e6,Rk2.lt_line' ∅,?_];have s07:=(s6\s7).upd (o:=.lst (ys++[v])) hwl;have p7:Rk2.Ps (bd (ers wl H7)) ys pls:=Rk2.Ps.imp (λ_ _ z=>bd.mono s7.ers z) p6;show#[83,(show(0:Int)<4 by decide),13,?_];by_cases z4:z%4=0
       . refine ag (Hf (Hr V.int z4)) #[21,wl,_,-1,ys.length,7,aH,by rw[HZ]; exact tD _,?_];rw[eX];show#[(s6\s7).upd hwl,16,pls++[none],rfl,aH,?_,by rw[HZ,l6]; rfl,(λu hu=>?_),∅,∅]
         . rw[fW,List.set_append_right _ _ (HY _),Nat.sub_self];exact Rk2.Ps.app p7 #[rfl,trivial]
         . rcases IH.mp hu with hu|hu
           . exact ok6 u hu
           . cases IC.mp hu
       . refine aa (λy=>z4 (V.int.inj (bC y))) #[s07,16,pls++[⇑tr],rfl,aH,?_,by rw[HZ,l6]; rfl,(λu hu=>?_),∅,∅]
         . rw[fW];exact Rk2.Ps.app p7 #[ph (s7 _ _ e6) r7,trivial]
         . rcases IH.mp hu with hu|hu
           . exact ok6 u hu
           . cases IC.mp hu;exact wT t7
     . rintro σ H6 ⟨s6,n7,v11,v12,ys,pls,rfl,e6,p6,l6,ok6,n70,n71⟩;rw[hn] at l6 n71;have k6:=k4\s6;have nwc:wl≠cl:=λz=>by rw[z,e1'] at hwl; cases hwl
       have nwv:wl≠vl:=λz=>by rw[z,e2'] at hwl; cases hwl
       show#[5,.inl #[6,aE.of (s6 _ _ e2')],5,vl,us,11,s6 _ _ e2',Rk2.lt_line' ∅,k6.upd hvH,n7,256,ch++[(F.name,r)],vs++[pls],rfl,by rw[aM nvc]; exact s6 _ _ e1',aH,?_,?_,by rw[HZ,lch]; rfl,mp.snoc fm l6 ok6,n70,∅,λ_ F2 hF2=>?_]
       . rw[fW];exact Rk2.Ps.imp (λ_ _ z=>z*>s6.ers.ers) p1'
       . rw[fW];exact Rk2.Ps.app (Rk2.Ps.imp (λ_ _ z=>z*>s6.ers.ers) p2') #[#[wl,ys,rfl,hwH,by rw[ak nwc,ak nwv]; exact e6,Rk2.Ps.imp (λ_ _ z=>bd.er2 (s6 _ _ e1') (s6 _ _ e2') nvc (bd.mono bK z)) p6],trivial]
       . cases i with
         | zero =>
           obtain rfl:ch=[]:=JJ.mp lch;rw[ha0 rfl,hF2] at hF;cases hF;show#[r,rfl]
         | succ i =>
           let#[r0,h0]:=fst (Nat.succ_pos _) F2 hF2;show#[r0,by rw[IV ∅]; exact h0]
   . rintro σ H2 ⟨s2,n6,v7,v8,v9,v10,v11,v12,xs,us,ch,vs,rfl,e1,e2,p1,p2,lch,mp,n0,n1,fst⟩;show#[5,cl,xs,rfl,.inl #[aE.of e1,λct hct=>?_]];have s3:=aB.new (o:=.tup xs) hct;show#[5,bH,λb hb=>?_];have s4:=aB.new (o:=.tup [V.ref ct,V.ref vl]) hb;have s34:=s3\s4;have sEr:=((bK (l:=cl))\(bK (l:=vl) (H:=H2))).trans s34;exact q #[ch,vs] _ _ (s2\s34) #[b,ct,vl,us,rfl,aG.of aH,#[xs,s4<*(aG.of aH),Rk2.Ps.imp (λ_ _ z=>z*>sEr) p1],hvH,s34 _ _ e2,Rk2.Ps.imp (λ_ _ z=>z*>sEr) p2] #[mp,by show 1<=ch.length; lia,by show ch.length<=3; lia] (fst ∅)
def we:FnScope ["_law_walker","_law_way","_law_level","_law_name","e"] ["_law_walker","_law_way","_law_level","_law_name"] (aS mS):=by walk_at "s"
def Du (T:Txt K mg t):FnOk P w K mg base CX0 14 t.xk t.yy ["_law_walker","_law_way","_law_level","_law_name"] (Fj K t):=by
 have Qy:=rn (P:=P) (w:=w) (base:=base) T;have Qm:=oj (P:=P) (w:=w) (base:=base) T;have Qn:=u6 (P:=P) (w:=w) (base:=base) T;have Qz:=vM (P:=P) (w:=w) (base:=base) T;refine T.rS.F.ok we (λvs H Q E h=>?_) (λcdv A outer s H vs Q E hr h=>?_)
 . let#[_,_,_,_,_,_,_,_,_,_,_,rfl,_]:=h;rfl
 . let#[w,wt,fs,wl,fns,cs,ms,Hb,y,z,n,rfl,W,q]:=h;show#[_,(aI (sy (j:=4) we.nd rfl rfl T.x_gE rfl rfl (qB (aj ay (aA 1) aJ (af _)) (kf (n9 (aA 0) T.aZ.cl T.lK.m Qy (hr*>#[]) T.lK.b (aA 2>=>aA 3>=>aD))) (qB (aj ay (aA 1) aJ (af _)) (kf (n9 (aA 0) T.aZ.cl T.iU.m Qm (hr*>#[]) T.iU.b (aA 2>=>aA 3>=>aD))) (qB (aj ay (aA 1) aJ (af _)) (kf (n9 (aA 0) T.aZ.cl T.iS.m Qn (hr*>#[]) T.iS.b (aA 2>=>aD))) (kf (n9 (aA 0) T.aZ.cl T.lF.m Qz (hr*>#[]) T.lF.b (aA 2>=>aJ>=>aJ>=>aD)))))) (λ_=>(~~~(g7 (ax (show ao _ (.builtin "isinstance") (iy K mg) from jx) 0x0 T.b_isinstance dg (aA 4>=>iI T.x_nN.g>=>aD)) (g7 (ax (show ao _ (.builtin "isinstance") (iy K mg) from jx) 0x0 T.b_isinstance dg (aA 4>=>(fw (v:=V.ty "ValueError") rfl T.b_ValueError Ff rfl)>=>aD)) (i7 (qN (ax (show ao _ (.builtin "isinstance") (iy K mg) from jx) 0x0 T.b_isinstance dg (aA 4>=>iI T.cg.g>=>aD))))))))) (~~~bW)),?_];have W0:=W;let#[oc,sent,cn,h,D,l1,l2]:=W0;by_cases y0:y=0
   . show#[45,ag (by rw[y0]; rfl) #[5,w.a,9,h.o,53,w,wt,fs,wl,fns,cs,ms,Hb,z,n,rfl,W,?_]];rcases q with⟨hz,q⟩|⟨i,f,m,p,pl,F,rfl,y2,LF,q⟩
     . refine .inr #[hz,λH1 s1=>?_];show#[t.x_nN,5,T.x_nN,T.e_nN,λea hea=>?_];generalize e:upd H1 ea _=H2;have ⟨s2,hX⟩:=nw e hea;show#[5,ea,129,hX,(λdx z=>by cases z),T.x_nN,rfl,T.k_NoName_nN,5,iP #[5,ea,129,hX,(λdx z=>by cases z),T.x_nN,rfl,T.v_nN,5,iP #[5,ea,129,hX,(λdx z=>by cases z),T.x_nN,rfl,T.k_NoName_Ended,5,q H2 (s1\s2)]]]
     . refine .inl #[i,f,m,p,pl,F,rfl,LF,λhin o ho H1 s1=>?_,λhno H1 s1=>?_]
       . exact vq (Hr V.bl (IU (λz=>z hin))).symm (q H1 s1)
       . show#[t.x_nN,5,T.x_nN,T.e_nN,λea hea=>?_];generalize e:upd H1 ea _=H2;have ⟨s2,hX⟩:=nw e hea;show#[5,ea,129,hX,(λdx z=>by cases z),T.x_nN,rfl,T.k_NoName_nN,5,iP #[5,ea,129,hX,(λdx z=>by cases z),T.x_nN,rfl,T.v_nN,5,iP #[5,ea,129,hX,(λdx z=>by cases z),T.x_nN,rfl,T.k_NoName_Ended,5,vq (Hr V.bl (Hf hno)).symm (q H2 (s1\s2))]]]
   by_cases y1:y=1
   . show#[45,aa (λz=>y0 (by have:=V.int.inj (bC z); lia)) #[45,ag (by rw[y1]; rfl) #[5,w.a,9,h.o,53,w,wt,fs,wl,fns,cs,ms,Hb,z,n,rfl,W,?_]]];rcases q with⟨hz,q⟩|⟨i,f,m,p,pl,F,rfl,y2,LF,q⟩
     . refine .inr #[hz,λH1 s1=>?_];show#[t.x_nN,5,T.x_nN,T.e_nN,λea hea=>?_];generalize e:upd H1 ea _=H2;have ⟨s2,hX⟩:=nw e hea;show#[5,ea,129,hX,(λdx z=>by cases z),T.x_nN,rfl,T.k_NoName_nN,5,iP #[5,ea,129,hX,(λdx z=>by cases z),T.x_nN,rfl,T.v_nN,5,iP #[5,ea,129,hX,(λdx z=>by cases z),T.x_nN,rfl,T.k_NoName_Ended,5,q H2 (s1\s2)]]]
     . refine .inl #[i,f,m,p,pl,F,rfl,LF,λhin o ho v1 H1 s1 _=>?_,λhno H1 s1=>?_]
       . exact vq (Hr V.bl (IU (λz=>z hin))).symm (q H1 s1)
       . show#[t.x_nN,5,T.x_nN,T.e_nN,λea hea=>?_];generalize e:upd H1 ea _=H2;have ⟨s2,hX⟩:=nw e hea;show#[5,ea,129,hX,(λdx z=>by cases z),T.x_nN,rfl,T.k_NoName_nN,5,iP #[5,ea,129,hX,(λdx z=>by cases z),T.x_nN,rfl,T.v_nN,5,iP #[5,ea,129,hX,(λdx z=>by cases z),T.x_nN,rfl,T.k_NoName_Ended,5,vq (Hr V.bl (Hf hno)).symm (q H2 (s1\s2))]]]
   by_cases y2:y=2
   . show#[45,aa (λz=>y0 (by have:=V.int.inj (bC z); lia)) #[45,aa (λz=>y1 (by have:=V.int.inj (bC z); lia)) #[45,ag (by rw[y2]; rfl) #[5,w.a,9,h.o,13,w,wt,fs,wl,fns,cs,ms,Hb,z,rfl,W,?_]]]];rcases q with⟨hz,q⟩|⟨i,f,m,p,pl,F,rfl,y2,LF,q⟩
     . refine .inr #[hz,λH1 s1=>?_];show#[t.x_nN,5,T.x_nN,T.e_nN,λea hea=>?_];generalize e:upd H1 ea _=H2;have ⟨s2,hX⟩:=nw e hea;show#[5,ea,129,hX,(λdx z=>by cases z),T.x_nN,rfl,T.k_NoName_nN,5,iP #[5,ea,129,hX,(λdx z=>by cases z),T.x_nN,rfl,T.v_nN,5,iP #[5,ea,129,hX,(λdx z=>by cases z),T.x_nN,rfl,T.k_NoName_Ended,5,q H2 (s1\s2)]]]
     . lia
   show#[45,aa (λz=>y0 (by have:=V.int.inj (bC z); lia)) #[45,aa (λz=>y1 (by have:=V.int.inj (bC z); lia)) #[45,aa (λz=>y2 (by have:=V.int.inj (bC z); lia)) #[5,w.a,9,h.o,13,w,wt,fs,wl,fns,cs,ms,Hb,z,(3),(5),rfl,W,?_]]]];rcases q with⟨hz,q⟩|⟨i,f,m,p,pl,F,rfl,y2,LF,q⟩
   . refine .inr #[hz,λH1 s1=>?_];show#[t.x_nN,5,T.x_nN,T.e_nN,λea hea=>?_];generalize e:upd H1 ea _=H2;have ⟨s2,hX⟩:=nw e hea;show#[5,ea,129,hX,(λdx z=>by cases z),T.x_nN,rfl,T.k_NoName_nN,5,iP #[5,ea,129,hX,(λdx z=>by cases z),T.x_nN,rfl,T.v_nN,5,iP #[5,ea,129,hX,(λdx z=>by cases z),T.x_nN,rfl,T.k_NoName_Ended,5,q H2 (s1\s2)]]]
   . lia
def om:FnScope ["_law_found","_law_due","_law_one","_law_other"] ["_law_found","_law_due"] (aS jQ):=by walk_at "s"
def AH (T:Txt K mg t):FnOk P w K mg base CX0 13 t.xg t.yt ["_law_found","_law_due"] (CB K):=by
 have Qb:=nI (P:=P) (w:=w) (base:=base) T;have Qf:FnOk P w K mg base CX0 11 t.lL t.lP ["_law_found","_law_due"] (nT K 10):=qR T 10;refine T.rQ.F.ok om (λvs H Q E h=>?_) (λcdv A outer s H vs Q E hr h=>?_)
 . let#[_,_,_,_,_,rfl,_]:=h;rfl
 . skip
   refine lx ?_;intro XX;refine(let W2:TS:=_; have hW2:aO XX ((aP jQ).drop 2) W2:=(~~~bW); ?_);refine(let W1:TS:=_; have hW1:aO XX ((aP jQ).drop 1) W1:=(aI (bq PassesOwn.never rfl (ql false false rfl T.b_zip (aA 0>=>aA 1>=>aD)) (ck rfl (bG (aY (i:=2) om.nd rfl 0x5) (bG (aY (i:=3) om.nd rfl 0x5) cV))) (aI (ae (@PW.pt _ _ _ (dF (cT (cL (ax nh 0x0 T.b_isinstance dg (aA 2>=>(fw (v:=V.ty "tuple") rfl T.b_tuple gQ rfl)>=>aD)))) (dF (aj jN (ax 0x1 0x0 T.b_len bQ (aA 2>=>aD)) aJ (af _)) (dF (cT (cL (cD T.lT Qb hr ((iT K (aA 2))>=>aD)))) (eu (aj (vU hr.units) (eM tU (aA 2) eZ (dk aJ)) (eM tU (aA 3) eZ (dk aJ)) (af _))))))) (~~~bW) ac) (@aK _ _ _ (ae (@PW.pt _ _ _ (dF (@PW.pt _ _ _ (mj (eF (i' (iT K (aA 3)))) (oH (eF (i3 (iT K (aA 2))))))) (eu (@PW.pt _ _ _ (mj (eF (i3 (iT K (aA 3)))) (oH (cT (cL (cD T.jV Qf hr ((iT K (aA 2))>=>(iT K (aA 3))>=>aD)))))))))) (~~~bW) ac)))) hW2); ?_);let#[l1,l2,us,ws,xs,rfl,h1,h2,p1,p2,ok,hx,q]:=h;show#[_,(aI (ae (@PW.pt _ _ _ (dF (cT (cL (ax nh 0x0 T.b_isinstance dg (aA 0>=>(fw (v:=V.ty "list") rfl T.b_list j5 rfl)>=>aD)))) (eu (aj jN (ax 0x1 0x0 T.b_len bQ (aA 0>=>aD)) (ax 0x1 0x0 T.b_len bQ (aA 1>=>aD)) (af _))))) (~~~bW) ac) hW1),?_];have lu:=Rk2.Ps.len p1;have lw:=Rk2.Ps.len p2;show#[10,"list",_,true,rfl,.lst h1,13,iN #[5,l1,5,.inl h1,5,l2,5,.inl h2,13,aa (by rw[lu,lw]; simp) ?_]];show#[21,l1,l2,rfl,#[_,h1],#[_,h2],(let Jv1:Nat->St->Hp->Prop:=λi σ H2=>aB H H2/\∃v2 v3,σ=[⇑↥l1,⇑↥l2,v2,v3]; pD (b1:=false) (b2:=false) (xs:=us) (ys:=ws) Jv1 #[aB.refl _,9] ?_ ?_ ?_)]
   . rintro i σ H2 hi ⟨s2,_⟩;show#[s2.seq h1,s2.seq h2]
   . rintro i y z σ H2 b hy hz ⟨s2,v2,v3,rfl⟩ hb;have s3:=s2\(aB.new (o:=.tup [y,z]) hb);have e3:=aG.of (K:=K) (aH (H:=H2) (a:=b) (o:=.tup [y,z]));generalize upd H2 b (.tup [y,z])=H3 at s3 e3 ⊢;have hi:i<xs.length:=by have:=(HV.mp hy).1; lia
     let#[v,hv,q1,x1,rfl,a1,b1]:=bt p1 (HU hi);rw[hy] at hv;cases hv;let#[v,hv,q2,x2,rfl,a2,b2]:=bt p2 (HU hi);rw[hz] at hv;cases hv;have ox:=ok _ (IT hi);generalize xs[i]=x at a1 b1 a2 b2 ox;let#[xn,xw,xo]:=x;have A1:=s3<*a1;show#[b,5,e3,403,?_];show#[10,"tuple",_,true,rfl,.tup A1,13,iN #[5,q1,5,.inr A1,13,aa (show ¬ (!decide (V.int ((3:Nat):Int)=V.int 3))=true by decide) #[5,q1,35,A1,53,iN #[21,rg A1 λc1 H4 s4 e4=>#[21,rg (s4<*(s3<*a2)) λc2 H5 s5 e5=>?_]]]]];have e4:aG K H5 c1 [.int (xn:Int),.str xw]:=s5<*e4;have e5:aG K H5 c2 [.int (xn:Int),.str xw]:=e5;have s35:=s3\(s4\s5);let#[dt,lt,d1,d2]:=Bg.Twin.tup (n:=0) e4 e5 (.of (.cons .int (.cons (.str ox.1) .nil)));refine wZ (n:=0+1) #[] lt d1 d2 #[5,iN ?_];clear d1 d2 lt;have A1:=s35<*a1;have A2:=s35<*a2;cases xo with
     | none =>
       obtain rfl:x1=.non:=b1;obtain rfl:x2=.non:=b2;show#[5,q2,35,A2,13,iP #[5,q1,35,A1,13,iN #[5,q2,35,A2,13,iN #[s35,9]]]]
     | some u =>
       have b1:Rk2.RAt H u x1:=b1;have b2:Rk2.RAt H u x2:=b2;have ou:=ox.2 u rfl;show#[5,q2,35,A2,13,aa (λz=>mH b2 (Ij z)) #[5,q2,35,A2,13,ag (by simpa using mH b2) #[5,q1,35,A1,13,q2,35,A2,rfl,u,x1,x2,rfl,ou.1,b1*>s35,b2*>s35,5,iN #[s35,9]]]]
   . rintro σ H2 ⟨s2,v2,v3,rfl⟩;exact q H2 s2
def r6:FnScope ["_law_walker","_law_level","_law_name","_law_place","_law_boxes","_law_there","_law_found"] ["_law_walker","_law_level","_law_name","_law_place","_law_boxes"] (aS jn):=by walk_at "s"
def DA (T:Txt K mg t):FnOk P w K mg base CX0 14 t.xh t.yu ["_law_walker","_law_level","_law_name","_law_place","_law_boxes"] (Gg K t):=by
 have Qf:FnOk P w K mg base CX0 11 t.lL t.lP ["_law_found","_law_due"] (nT K 10):=qR T 10;have Qb:=nI (P:=P) (w:=w) (base:=base) T;have Qe:FnOk P w K mg base CX0 11 t.lN t.lQ ["_law_one","_law_boxes"] (ny K 10):=pB T 10;have Qm:=oj (P:=P) (w:=w) (base:=base) T;have Qy:=rn (P:=P) (w:=w) (base:=base) T;refine T.zM.F.ok r6 (λvs H Q E h=>?_) (λcdv A outer s H vs Q E hr h=>?_)
 . let#[_,_,_,_,_,_,_,_,_,_,_,_,_,_,_,_,_,_,rfl,_]:=h;rfl
 . skip
   refine lx ?_;intro XX;refine(let W2:TS:=_; have hW2:aO XX ((aP jn).drop 2) W2:=(aI (ae (eF (i' (aA 3))) (~~~(g7 (vR (i' (aA 5))) (i7 (vR (i' (aA 6)))))) ac) (~~~(g7 (cD T.jV Qf hr (aA 5>=>aA 3>=>aD)) (g7 (cD T.lT Qb hr (aA 6>=>aD)) (i7 (gR ay (aA 6) (cD T.jW Qe hr (aA 3>=>aA 4>=>aD)) (af _))))))); ?_);let#[w,wt,fs,wl,fns,cs,ms,Hb,i,f,m,p,pl,F,n,o,v,d,rfl,W,LF,hin,ho,hv,hd,q]:=h;show#[_,(aI (pS 5 r6.nd (bJ (aA 0) T.aZ.cl T.iU.m Qm (hr*>#[]) T.iU.b .nil gM (aA 1>=>aA 2>=>aD))) (aI (pS 6 r6.nd (bJ (aA 0) T.aZ.cl T.lK.m Qy (hr*>#[]) T.lK.b .nil gM (aA 1>=>aA 2>=>aD))) hW2)),?_];have W0:=W;let#[oc,sent,cn,h,D,l1,l2]:=W0;show#[5,w.a,9,h.o,53,w,wt,fs,wl,fns,cs,ms,Hb,i,n,rfl,W,.inl #[i,f,m,p,pl,F,rfl,LF,λ_ o2 ho2 v1 H1 s1 hv1=>?_,λhno=>absurd hin hno]];rw[ho] at ho2;cases ho2;have W1:=W.keep s1;have h1:=h.keep s1;show#[5,w.a,9,h1.o,53,w,wt,fs,wl,fns,cs,ms,Hb,i,n,rfl,W1,.inl #[i,f,m,p,pl,F,rfl,LF,λ_ o2 ho2 H2 s2=>?_,λhno=>absurd hin hno]];rw[ho] at ho2;cases ho2;have s02:=s1\s2;have h2:=h1.keep s2;cases o with
   | none =>
     obtain rfl:v=.non:=hv;obtain rfl:v1=.non:=hv1;show#[21,kr #[21,iP #[5,q H2 s02]]]
   | some u =>
     have hv:Rk2.RAt H u v:=hv;have hv1:Rk2.RAt Hb u v1:=hv1;have ok:=LF.ok u (IA ho);show#[21,aa (λz=>mH hv (Ij z)) ?_];show#[21,u,v1,v,rfl,ok.1,hv1*>h2.b,hv*>s02,5,iP #[85,iP #[85,u,v,d,f.kvs,rfl,ok.1,hv*>s02,s02 _ _ hd,LF.dv,ok.2,rfl,vq (Hr V.bl (Hf rfl)) (q H2 s02)]]]
def cf:FnScope ["_law_walker","_law_own","_law_names_here","_law_high","_law_due","_law_mark_here","_law_boxes","_law_level","_law_mates_here","_law_k","_law_words","_law_there","_law_name","_law_place","_law_found","_law_word","_law_refused_here"] ["_law_walker","_law_own","_law_names_here","_law_high"] (aS eY):=by walk_at "s"
def wk (T:Txt K mg t):FnOk P w K mg base CX0 15 t.xm t.z6 ["_law_walker","_law_own","_law_names_here","_law_high"] (En K t):=by
 have QX:=GX (P:=P) (w:=w) (base:=base) T;have QY:=DA (P:=P) (w:=w) (base:=base) T;have QB:=AH (P:=P) (w:=w) (base:=base) T;have QC:=Du (P:=P) (w:=w) (base:=base) T;have QZ:=Ew (P:=P) (w:=w) (base:=base) T;have Qn:=u6 (P:=P) (w:=w) (base:=base) T;refine T.ia.F.ok cf (λvs H Q E h=>?_) (λcdv A outer s H vs Q E hr h=>?_)
 . let#[_,_,_,_,_,_,_,_,_,_,_,_,_,_,_,rfl,_]:=h;rfl
 . skip
   refine lx ?_;intro XX;refine(let W7:TS:=_; have hW7:aO XX ((aP eY).drop 7) W7:=(~~~bW); ?_);refine(let W6:TS:=_; have hW6:aO XX ((aP eY).drop 6) W6:=(aI (bq PassesOwn.never rfl (ci rfl T.b_range (aA 7>=>aD)) (aY (i:=11) cf.nd rfl (Or.inr rfl)) (@aK _ _ _ (bq PassesOwn.never rfl (d6 (bE ((iY K (dw (bV hr.units) (aA 2) ah (λ_ _=>rfl)) (eS fB aJ))>=>(iY K (dw (bV hr.units) (aA 2) ah (λ_ _=>rfl)) (aV bD<$>(aw bU<$>aA 3<*>aA 11)<*>(ax 0x1 0x0 T.b_len bQ ((dw (bV hr.units) (aA 2) ah (λ_ _=>rfl))>=>aD))))>=>aD))) (aY (i:=15) cf.nd rfl (Or.inr rfl)) (aI (mV (i:=16) cf.nd rfl 0x5 (N':=["_law_way","_law_walker","_law_there","_law_word"]) (js:=[none,some 0,some 11,some 15]) (by kernel_rfl) rfl (ci rfl T.b_range (aJ>=>aD)) dD (λ_ _ _ _=>(aY (i:=0) (show(["_law_way","_law_walker","_law_there","_law_word"]:List Str).Nodup by decide +kernel) rfl 0x5 (.inr rfl))) (λ_ _ _ _=>cj) (λ_ _ _ _=>(cD T.rS QC hr (aA 1>=>aA 0>=>aA 2>=>aA 3>=>aD))) 0x0) (@aK _ _ _ (ae (@PW.pt _ _ _ (mj (aj vY (aA 15) (dw (bV hr.units) (aA 2) (iT K (iY K (aA 4) (aA 11))) (λ_ _=>rfl)) (by with_unfolding_all rfl)) (oH (aj (vU hr.units) (aA 16) (bE (bW>=>bW>=>aD)) (af _))))) (~~~bW) ac)))))) hW7); ?_);refine(let W5:TS:=_; have hW5:aO XX ((aP eY).drop 5) W5:=(aI (bq PassesOwn.never rfl (d6 (bE (eS fB aJ>=>(aw g9<$>eS fB aJ<*>aA 3)>=>aA 7>=>(aw bU<$>aA 7<*>aA 3)>=>aD))) (aY (i:=11) cf.nd rfl (Or.inr rfl)) (@aK _ _ _ (ae (aj kL bW (dL (N':=["_law_way","_law_walker","_law_there","_law_names_here"]) (js:=[none,some 0,some 11,some 2]) (by kernel_rfl) rfl (ci rfl T.b_range (aJ>=>aD)) dD (λ_ _ _ _=>(aY (i:=0) (show(["_law_way","_law_walker","_law_there","_law_names_here"]:List Str).Nodup by decide +kernel) rfl 0x5 (.inr rfl))) (λ_ _ _ _=>cj) (λ_ _ _ _=>(cD T.rS QC hr (aA 1>=>aA 0>=>aA 2>=>(iL K (dw (bV hr.units) (aA 3) ah (λ_ _=>rfl)))>=>aD)))) (by with_unfolding_all rfl)) (~~~bW) ac))) hW6); ?_);refine(let W4:TS:=_; have hW4:aO XX ((aP eY).drop 4) W4:=(aI (bq PassesOwn.never rfl (d6 (aA 1)) (ck rfl (bG (aY (i:=5) cf.nd rfl (Or.inr rfl)) (bG (aY (i:=6) cf.nd rfl 0x5) cV))) (aI (pS 8 cf.nd (bE aD)) (aI (bq PassesOwn.never rfl (ci rfl T.b_range ((ax 0x1 0x0 T.b_len bQ ((iT K (aA 5))>=>aD))>=>aD)) (aY (i:=9) cf.nd rfl (Or.inr rfl)) (aI (pS 10 cf.nd (dw (bV hr.units) (aA 2) (iT K (iX K (iT K (aA 5)) (aA 9))) (λ_ _=>rfl))) (@aK _ _ _ (@bS _ _ _ _ (cQ Ht JF JG oX (aA 8) ((dL (N':=["_law_j","_law_level","_law_k","_law_words","_law_mark_here"]) (js:=[none,some 7,some 9,some 10,some 5]) (by kernel_rfl) rfl (ci rfl T.b_range ((ax 0x1 0x0 T.b_len bQ (aA 10>=>aD))>=>aD)) dD (λ_ _ _ _=>(aY (i:=0) (show(["_law_j","_law_level","_law_k","_law_words","_law_mark_here"]:List Str).Nodup by decide +kernel) rfl 0x5 (.inr rfl))) (λ_ _ _ _=>cj) (λ_ _ _ _=>(bA ((aw bU<$>aA 1<*>aA 2)>=>(iY K (aA 3) (aA 0))>=>(iY K (iY K (iT K (aA 4)) (aA 2)) (aA 0))>=>aD))))>=>aD)) 0x0)))) (aI (bq PassesOwn.never rfl (d6 (aA 8)) (ck rfl (bG (aY (i:=11) cf.nd rfl (Or.inr rfl)) (bG (aY (i:=12) cf.nd rfl 0x5) (bG (aY (i:=13) cf.nd rfl 0x5) cV)))) (@aK _ _ _ (ae (cT (cL (cD T.zM QY hr (aA 0>=>aA 11>=>aA 12>=>aA 13>=>aA 6>=>aD)))) (~~~bW) ac))) (aI (bq PassesOwn.never rfl (ci rfl T.b_range ((ax 0x1 0x0 T.b_len bQ ((iT K (aA 5))>=>aD))>=>aD)) (aY (i:=9) cf.nd rfl (Or.inr rfl)) (aI (pS 14 cf.nd (bJ (aA 0) T.aZ.cl T.iS.m Qn (hr*>#[]) T.iS.b .nil gM ((aw bU<$>aA 7<*>aA 9)>=>aD))) (aI (ae (cT (cL (cD T.rQ QB hr (aA 14>=>aA 8>=>aD)))) (~~~bW) ac) (aI (@bS _ _ _ _ (pJ Ht PySem.F.slot_list_clear PySem.F.type_list_clear FM (aA 14)) 0x0) (@aK _ _ _ (ae (cT (cL (cD T.rQ QB hr ((bJ (aA 0) T.aZ.cl T.iS.m Qn (hr*>#[]) T.iS.b .nil gM ((aw bU<$>aA 7<*>aA 9)>=>aD))>=>aA 8>=>aD)))) (~~~bW) ac)))))) (@aK _ _ _ (pS 7 cf.nd (aw bU<$>aA 7<*>(ax 0x1 0x0 T.b_len bQ ((iT K (aA 5))>=>aD)))))))))) hW5); ?_);refine(let W3:TS:=_; have hW3:aO XX ((aP eY).drop 3) W3:=(aI (pS 7 cf.nd aJ) hW4); ?_);refine(let W2:TS:=_; have hW2:aO XX ((aP eY).drop 2) W2:=(aI (ae (cT (cL (cD T.zJ QX hr ((gk (aA 0) T.aZ.cl T.rG.m QZ (hr*>#[]) T.rG.b .nil bM)>=>aA 4>=>aD)))) (~~~bW) ac) hW3); ?_);refine(let W1:TS:=_; have hW1:aO XX ((aP eY).drop 1) W1:=(aI (bq PassesOwn.never rfl (d6 (aA 1)) (ck rfl (bG (aY (i:=5) cf.nd rfl (Or.inr rfl)) (bG (aY (i:=6) cf.nd rfl 0x5) cV))) (@aK _ _ _ (@bS _ _ _ _ (cQ Ht JF JG sL (aA 4) ((iT K (aA 5))>=>aD)) 0x0))) hW2); ?_);let#[w,wt,wl,fns,cs,ms,Hb,L,nd,al,ol,kn,ws,us,hg,rfl,W,S,N,hol,hu,q]:=h;show#[_,(aI (pS 4 cf.nd (bE aD)) hW1),?_];have W0:=W;let#[oc,sent,cn,h,D,l1,l2]:=W0;have lu:=Rk2.Ps.len hu;have hL2:=S.hl;show#[cH,λdu hdu=>?_];have s0:=aB.new (o:=.lst []) hdu;show#[5,ol,rfl,#[_,s0.seq hol],(let Jv1:Nat->St->Hp->Prop:=λi σ H2=>aB H H2/\∃v5 v6 xs,σ=[⇑↥w.a,⇑↥ol,⇑↥nd,⇑(.int (hg:Nat)),⇑↥du,v5,v6,none,none,none,none,none,none,none,none,none,none]/\H2 du=⇑(.lst xs)/\Rk2.Ps (dC K H) xs ((L.take i).flatMap (·.2.1.ch))/\xs.length<=3 * i; gB (xs:=us) Jv1 #[s0,4,[],rfl,aH,trivial,HY _] ?_ ?_ ?_)]
   . rintro i σ H2 hi ⟨s2,_⟩;exact s2.seq hol
   . rintro i x σ H2 hx ⟨s2,v5,v6,xs,rfl,e2,p2,n2⟩;have hi:i<L.length:=by have:=(HV.mp hx).1; lia
     have hLx:=HU hi;obtain⟨v,hv,qa,mv,rfl,a1,⟨qm,c,l,vv,rfl,m1,⟨cu,m2,m3⟩,m4,m5⟩,a3⟩:=bt hu hLx;rw[hx] at hv;cases hv;have lc:=Rk2.Ps.len m3;have M3:=(S.at_ i _ hLx).ok.l3;show#[qa,5,s2<*a1,403,?_];show#[5,.inl #[6,aE.of e2],5,qm,35,s2<*m1,rfl,du,c,xs,cu,7,e2,s2<*m2,fC ∅,s2.upd hdu,17,aH,?_,by rw[HZ]; lia];rw[IM,hLx,IZ];exact Rk2.Ps.app p2 ↑m3
   rintro σ H1 ⟨s1,v5,v6,dx,rfl,ed,pd,nd1⟩;rw[lu,IP] at pd;have W1:=W.keep s1;have h1:=h.keep s1;show#[5,w.a,9,h1.o,rfl,w,wt,_,wl,fns,cs,ms,Hb,L.map (·.2.1),rfl,W1,by rw[HS,HS],(λj f m hf hm=>?_),λl us2 H2 s2 n2 e2 p2=>?_]
   . rw[Hk] at hf hm;cases e:L[j]? with
     | none=>rw[e] at hf; cases hf
     | some x =>
       rw[e] at hf hm;cases hf;cases hm;show#[(S.at_ j x e).ma,Hu (S.at_ j x e).ok.l3 #[]]
   rw[List.flatMap_map] at p2;have s02:=s1\s2;show#[5,l,du,us2,dx,L.flatMap (·.2.1.ch),rfl,aE.of e2,aE.of (s2 _ _ ed),Rk2.Ps.imp (λ_ _ z=>z*>(h.b\s02)) p2,Rk2.Ps.imp (λ_ _ z=>z*>s02) pd,(λp hp=>?_),5,iN ?_]
   . let#[j,hj]:=JU.mp hp;obtain⟨i,x,k,hx,hk,-⟩:=pe _ L j p hj;have M:=(S.at_ i x hx).ok;have hkl:=(HV.mp hk).1;obtain⟨F,f1,f2,-⟩:=M.p.at_ k p _ hk (HU (by rw[M.p.len]; exact hkl));rw[f2];exact(S.fn F f1).so
   have ed:=s2 _ _ ed;have W2:=W.keep s02;have h2:=h.keep s02;have ldx:=Rk2.Ps.len pd;clear n2 e2 p2 W1 h1 s1 s2 s0 hdu;show#[5,ol,rfl,#[_,s02.seq hol],(let Jv2:Nat->St->Hp->Prop:=λi σ H3=>aB H2 H3/\∃v5 v6 v8 v9 v10 v11 v12 v13 v14,σ=[⇑↥w.a,⇑↥ol,⇑↥nd,⇑(.int (hg:Nat)),⇑↥du,v5,v6,⇑(.int (dB L i:Nat)),v8,v9,v10,v11,v12,v13,v14,none,none]; gB (xs:=us) Jv2 #[aB.refl _,1025] ?_ ?_ ?_)]
   . rintro i σ H3 hi ⟨s3,_⟩;exact(s02\s3).seq hol
   . rintro i x σ H3 hx ⟨s3,v5,v6,v8,v9,v10,v11,v12,v13,v14,rfl⟩;have hi:i<L.length:=by have:=(HV.mp hx).1; lia
     have hLx:=HU hi;obtain⟨v,hv,qa,mv,rfl,a1,⟨qm,c,l,vv,rfl,m1,⟨cu,m2,m3⟩,m4,m5⟩,a3⟩:=bt hu hLx;rw[hx] at hv;cases hv;have M:=S.at_ i _ hLx;have hbn:=FO hLx;let#[nm,lnm,hk]:=Bf S hLx;generalize L[i]=X at *;let#[f,m,d]:=X;have lc:cu.length=m.ch.length:=Rk2.Ps.len m3;have lvv:vv.length=m.vs.length:=Rk2.Ps.len m5;have M3:m.ch.length<=3:=M.ok.l3;have Mv:m.vs.length=m.ch.length:=M.ok.p.len;have fi:f.first=dB L i:=M.fi;have hk:∀(k:Nat) p1 pl1,m.ch[k]?=⇑p1->m.vs[k]?=⇑pl1->∃F,LvF ms (L.map (·.1)) wl fns (f.first+k) f m p1 pl1 F/\nm[k]?=⇑(F2.nms F):=hk;rw[<- fi];have k3:=s02\s3;show#[qa,5,k3<*a1,403,?_];show#[cH,λml hml=>?_];have s4:=aB.new (o:=.lst []) hml;have k4:=k3\s4;have hmH:=k3.free hml;show#[5,qm,35,k4<*m1,rfl,c,cu,rfl,.inr (k4<*m2),5,∅,∅,(let Jv3:Nat->St->Hp->Prop:=λk σ H4=>aB H3 H4/\∃v9 v10 xs,σ=[⇑↥w.a,⇑↥ol,⇑↥nd,⇑(.int (hg:Nat)),⇑↥du,⇑↥qm,⇑↥d,⇑(.int (f.first:Nat)),⇑↥ml,v9,v10,v11,v12,v13,v14,none,none]/\H4 ml=⇑(.lst xs)/\Rk2.Ps (eK K (ers ml H4)) xs (dX f.first m nm k)/\xs.length<=20 * k; eR (lo:=0) (n:=cu.length) Jv3 #[s4,4,[],rfl,aH,trivial,HY _] ?_ ?_)]
     . rintro k σ H4 hkc ⟨s4,v9,v10,xs,rfl,e4,p4,n4⟩;have k4:=k3\s4;rw[Io];obtain⟨p1,hp1⟩:∃p1,m.ch[k]?=⇑p1:=#[_,HU ∅]
       obtain⟨pl1,hpl1⟩:∃pl1,m.vs[k]?=⇑pl1:=#[_,HU ∅]
       let#[F,LF,hnm]:=hk k p1 pl1 hp1 hpl1;let#[vf,hvf,qf,rfl,hqf]:=bt m3 hp1;let#[vp,hvp,qp,vps,rfl,hqp,hvs]:=bt m5 hpl1;let#[nl,g1,g2]:=N.fn F LF.fn;have O:=S.fn F LF.fn;have O1:=O.n1;have pn:=LF.pn;have lvp:=Rk2.Ps.len hvs;have lnn:((F2.nms F).map V.str).length=(F2.nms F).length:=HS _;show#[21,qm,35,k4<*m1,13,c,35,k4<*m2,bp hvf,qf,35,k4<*hqf,25,Wk.dget_of (k4 _ _ N.d) (by rw[LF.nm]; exact g1),?_];have hR:dh f.first m nm k=((F2.nms F).zip pl1).map λx=>(f.first+k,x.1,x.2):=by unfold dh; rw[jK hnm,jK hpl1]
       show#[5,.inl #[6,aE.of e4],5,nl,5,.inl (k4.seq g2),5,∅,∅,λpL hpL=>jz (lo:=0) (n:=((F2.nms F).map V.str).length) (λj G v=>∃x,(dh f.first m nm k)[j]?=⇑x/\eK K (ers ml G) x v) (λ_ _ _ _ z z225_=>by let#[x,z1,z2]:=z225_; show#[x,z1,z2*>z.ers]) ∅ hpL ?_ ?_]
       . rintro j G R_ hj sG ⟨acc,eacc⟩ kk;have kG:=k4\sG;rw[Io];rw[lnn] at hj;let#[vz,hvz,hPz]:=bt hvs (HU (i:=j) ∅);show#[5429,nl,4,.str (F2.nms F)[j],7,kG.seq g2,bp (by rw[Hk,HU hj]; rfl),5,qm,35,kG<*m1,13,l,35,kG.seq m4,bp hvp,5,qp,4,vz,7,kG.seq hqp,bp hvz,dY,λb hb=>?_];have s6:=aB.new (o:=.tup [.int ((f.first:Int)+(k:Int)),.str (F2.nms F)[j],vz]) hb;have nbp:b≠pL:=λy=>by rw[y,eacc] at hb; cases hb
         have nbm:b≠ml:=λy=>by rw[y,sG _ _ e4] at hb; cases hb
         have hx:(dh f.first m nm k)[j]?=⇑(f.first+k,(F2.nms F)[j],pl1[j]'∅):=by rw[hR,Hk,HU (by rw[Jv]; lia),List.getElem_zip];rfl
         have hpH:=k4.free hpL;exact kk _ _ s6 #[_,hx,b,vz,rfl,aG.of (by rw[ak nbm,ak nbp]; exact aH),bd.mono (cw (cw (kG\s6) hpH) hmH) hPz]
       . rintro H5 vs s5 e5 l5 t5;have npm:pL≠ml:=λy=>by rw[y,e4] at hpL; cases hpL
         show#[ml,pL,xs,vs,7,s5 _ _ e4,e5,fC ∅,(s4\s5).upd hml,17,aH,?_,by rw[HZ]; lia];rw[fW,Gv];refine Rk2.Ps.app (Rk2.Ps.imp (λ_ _ z=>z*>s5.ers) p4) (jI (by rw[l5,lnn,hR,HS,Jv]; lia) λj v hv=>?_);let#[x,z1,z2]:=t5 j v hv;show#[x,z1,z2*>bK.ers]
     rintro σ H4 ⟨s4,v9,v10,xs,rfl,e4,p4,n4⟩;rw[lc] at p4 n4;have k4:=k3\s4;have p4:Rk2.Ps (eK K H4) xs (dX f.first m nm m.ch.length):=Rk2.Ps.imp (λ_ _ z=>z*>bK) p4;have lx:=Rk2.Ps.len p4;have okr:∀x∈dX f.first m nm m.ch.length,PyData.strOk x.2.1=true/\∀u,x.2.2=⇑u->dO u:=λx hx=>by let#[k,hk1,hk2]:=vW hx;let#[p,pl,F,LF,y1,y2]:=w6 Mv hk hk1 hk2;show#[(S.fn F LF.fn).ns _ y1,λu hu=>LF.ok u (by rw[<- hu]; exact IA y2)]
     show#[5,ml,rfl,#[_,aE.of e4],(let Jv4:Nat->St->Hp->Prop:=λj σ H5=>aB H4 H5/\∃v9 v10 v11 v12 v13,σ=[⇑↥w.a,⇑↥ol,⇑↥nd,⇑(.int (hg:Nat)),⇑↥du,⇑↥qm,⇑↥d,⇑(.int (f.first:Nat)),⇑↥ml,v9,v10,v11,v12,v13,v14,none,none]; gB (xs:=xs) Jv4 #[aB.refl _,65] ?_ ?_ ?_)]
     . rintro j σ H5 hj ⟨s5,_⟩;exact aE.of (s5 _ _ e4)
     . rintro j x σ H5 hx ⟨s5,v9,v10,v11,v12,v13,rfl⟩;have hj:j<(dX f.first m nm m.ch.length).length:=by have:=(HV.mp hx).1; lia
       let#[v,hv,qx,vx,rfl,b1,b2]:=bt p4 (HU hj);rw[hx] at hv;cases hv;let#[k,hk1,hk2]:=vW (IT hj);let#[p,pl,F,LF,y1,y2]:=w6 Mv hk hk1 hk2;have k5:=k4\s5;show#[qx,5,s5<*b1,3219,?_];show#[1365,w,wt,_,wl,fns,cs,ms,Hb,_,f,m,p,pl,F,4,vx,d,rfl,W.keep k5,LF,y1,y2,bd.mono s5 b2,k5 _ _ a3,λH6 s6=>#[5,iN #[s5\s6,65]]]
     rintro σ H5 ⟨s5,v9,v10,v11,v12,v13,rfl⟩;have k5:=k4\s5;have e5:=s5 _ _ e4;have p5:Rk2.Ps (eK K H5) xs (dX f.first m nm m.ch.length):=Rk2.Ps.imp (λ_ _ z=>z*>s5) p4;show#[5,qm,35,k5<*m1,rfl,c,cu,rfl,.inr (k5<*m2),5,∅,∅,(let Jv5:Nat->St->Hp->Prop:=λk σ H6=>aB H5 H6/\∃v9 v14,σ=[⇑↥w.a,⇑↥ol,⇑↥nd,⇑(.int (hg:Nat)),⇑↥du,⇑↥qm,⇑↥d,⇑(.int (f.first:Nat)),⇑↥ml,v9,v10,v11,v12,v13,v14,none,none]; eR (lo:=0) (n:=cu.length) Jv5 #[aB.refl _,9] ?_ ?_)]
     . rintro k σ H6 hkc ⟨s6,v9,v14,rfl⟩;rw[Io];have k6:=k5\s6;have h6:=h.keep k6;obtain⟨p1,hp1⟩:∃p1,m.ch[k]?=⇑p1:=#[_,HU ∅]
       obtain⟨pl1,hpl1⟩:∃pl1,m.vs[k]?=⇑pl1:=#[_,HU ∅]
       let#[F,LF,hnm]:=hk k p1 pl1 hp1 hpl1;show#[5,w.a,9,h6.o,851,w,wt,_,wl,fns,cs,ms,Hb,((f.first+k:Nat):Int),rfl,W.keep k6,.inl #[_,f,m,p1,pl1,nm,rfl,LF.lv,LF.c,Mv,lnm,hk,λfl us7 H7 s7 n7 e7 p7=>?_]];have s57:=s6\s7;show#[21,fl,ml,us7,xs,5,aE.of e7,aE.of (s57 _ _ e5),Rk2.Ps.imp (λ_ _ z=>z*>bK) p7,Rk2.Ps.imp (λ_ _ z=>z*>s57) p5,okr,∅,λH8 s8=>#[5,iN ?_]];show#[5,.inl #[6,aE.of (s8 _ _ e7)],fl,11,s8 _ _ e7,?_];have s9:aB H5 (upd H8 fl (.lst [])):=(s57\s8).upd (s6.free n7);generalize upd H8 fl (.lst [])=H9 at s9 ⊢;have k9:=k5\s9;have h9:=h.keep k9;show#[5,w.a,9,h9.o,851,w,wt,_,wl,fns,cs,ms,Hb,((f.first+k:Nat):Int),rfl,W.keep k9,.inl #[_,f,m,p1,pl1,nm,rfl,LF.lv,LF.c,Mv,lnm,hk,λfl us7 H7 s7 n7 e7 p7=>?_]];have s57:=s9\s7;show#[5,fl,ml,us7,xs,5,aE.of e7,aE.of (s57 _ _ e5),Rk2.Ps.imp (λ_ _ z=>z*>bK) p7,Rk2.Ps.imp (λ_ _ z=>z*>s57) p5,okr,∅,λH8 s8=>#[5,iN #[s57\s8,9]]]
     rintro σ H6 ⟨s6,v9,v14,rfl⟩;have k6:=k5\s6;have e:((f.first:Nat):Int)+((cu.length:Nat):Int)=((dB L (i+1):Nat):Int):=by have hbn:dB L (i+1)=dB L i+m.ch.length:=hbn; lia
     show#[21,qm,35,k6<*m1,rfl,c,cu,rfl,.inr (k6<*m2),19,?_];rw[e];show#[s3\(s4\(s5\s6)),1025]
   rintro σ H3 ⟨s3,v5,v6,v8,v9,v10,v11,v12,v13,v14,rfl⟩;rw[lu];have k3:=s02\s3;obtain⟨w0,ws',rfl⟩:∃a b,ws=a::b:=List.exists_cons_of_ne_nil N.ne;obtain⟨nl,hnl⟩:∃nl,dB L L.length=nl:=#[5]
   have hnl':nl=(L.flatMap (·.2.1.ch)).length:=by rw[<- hnl]; unfold dB; rw[IP]
   rw[hnl];have out:=S.out;rw[hnl] at out;show#[1396051,gF,λtl htl=>?_];have s4:=aB.new (o:=.lst [V.int (-1),V.int (-1 - (hg:Int)),V.int (nl:Int),V.int ((nl:Int)+(hg:Int))]) htl;have e4:=aE.of (K:=K) (aH (H:=H3) (a:=tl) (o:=.lst [V.int (-1),V.int (-1 - (hg:Int)),V.int (nl:Int),V.int ((nl:Int)+(hg:Int))]));generalize upd H3 tl (.lst [V.int (-1),V.int (-1 - (hg:Int)),V.int (nl:Int),V.int ((nl:Int)+(hg:Int))])=H4 at s4 e4 ⊢;have ed4:=s4 _ _ (s3 _ _ ed);have k4:=k3\s4;show#[tl,rfl,#[_,e4],(let Jv6:Nat->St->Hp->Prop:=λj σ H5=>aB H4 H5/\∃v11,σ=[⇑↥w.a,⇑↥ol,⇑↥nd,⇑(.int (hg:Nat)),⇑↥du,v5,v6,⇑(.int (nl:Nat)),v8,v9,v10,v11,v12,v13,v14,none,none]; gB (xs:=[V.int (-1),V.int (-1 - (hg:Int)),V.int (nl:Int),V.int ((nl:Int)+(hg:Int))]) Jv6 #[aB.refl _,5] ?_ ?_ ?_)]
   . rintro j σ H5 hj ⟨s5,_⟩;exact s5.seq e4
   . rintro j x σ H5 hx ⟨s5,v11,rfl⟩;obtain⟨z,rfl,hz⟩:∃z,x=V.int z/\fZ ms (L.map (·.1)) wl z:=by
       have hm:=IA hx;simp only[Hh,ID,or_false] at hm;rcases hm with rfl|rfl|rfl|rfl
       . show#[5,.inl #[]]
       . show#[5,.inl ∅]
       . show#[5,out _ (HY _)]
       . show#[((nl+hg:Nat):Int),rfl,out _ (Jq _ _)]
     have k5:=k4\s5;show#[5,#[],#[],λpL hpL=>jz (lo:=0) (n:=4) (λj G v=>v=V.bl true) (λ_ _ _ _ _ z=>z) #[] hpL ?_ ?_]
     . rintro j G R_ hj sG ⟨acc,eacc⟩ kk;have kG:=k5\sG;rw[Io];show#[2729,Wk.dget_of (kG _ _ N.d) N.no,al,35,kG.seq N.al,(show am _ ((0:Nat):Int)=_ from bp rfl),w,wt,_,wl,fns,cs,ms,Hb,j,z,w0,rfl,W.keep kG,.inl #[hz,λH' s'=>kk _ _ s' rfl]]
     . rintro H6 vs s6 e6 l6 t6;obtain rfl:=uk l6 t6;show#[pL,5,.inl (aE.of e6),29,iN #[s5\s6,5]]
   rintro σ H5 ⟨s5,v11,rfl⟩;have k5:=k4\s5;have ed5:=s5 _ _ ed4;show#[21,∅,∅,(let Jv7:Nat->St->Hp->Prop:=λj σ H6=>aB H5 H6/\∃v11 v15 v16,σ=[⇑↥w.a,⇑↥ol,⇑↥nd,⇑(.int (hg:Nat)),⇑↥du,v5,v6,⇑(.int (nl:Nat)),v8,v9,v10,v11,v12,v13,v14,v15,v16]; eR (lo:=0) (n:=nl) Jv7 #[aB.refl _,17] ?_ ?_)]
   . rintro j σ H6 hj ⟨s6,v11,v15,v16,rfl⟩;rw[Io];have k6:=k5\s6;obtain⟨p,hp⟩:∃p,(L.flatMap (·.2.1.ch))[j]?=⇑p:=#[_,HU ∅]
     let#[i,x,k,hx,hk,ej]:=pe _ L j p hp;have M:=(S.at_ i x hx)
     obtain⟨pl1,hpl⟩:∃pl1,x.2.1.vs[k]?=⇑pl1:=#[_,HU (by rw[M.ok.p.len]; exact(HV.mp hk).1)]
     let#[F,LF]:=pi S hx hk hpl;have ej2:x.1.first+k=j:=by rw[M.fi]; exact ej.symm
     rw[ej2] at LF;let#[vf,hvf,qf,rfl,hqf]:=bt pd hp;let#[nL,g1,g2]:=N.fn F LF.fn;have lws:((w0::ws').map V.str).length=ws'.length+1:=by rw[HS]; rfl
     obtain⟨wa,hwa⟩:∃wa,am ((w0::ws').map V.str) (-1)=⇑(.str wa):=by show#[(w0::ws')[ws'.length]'(Iw _),?_];unfold am;rw[lws,tD];show((w0::ws').map V.str)[ws'.length]?=_;rw[Hk,HU (Iw _)];rfl
     have hpos:(0:Int)<(((w0::ws').map V.str).length:Nat):=by rw[lws]; lia
     obtain⟨wb,hwb⟩:∃wb,am ((w0::ws').map V.str) (((hg:Int)+(j:Int))%(((w0::ws').map V.str).length:Nat))=⇑(.str wb):=by let#[r,h1,h2]:=md ((hg:Int)+(j:Int)) _ hpos;rw[h1];rw[lws] at h2;show#[_,bp (by rw[Hk,HU (by show r<ws'.length+1; lia)]; rfl)]
     show#[41,Wk.dget_of (k6 _ _ N.d) N.no,5,al,35,k6.seq N.al,hwa,41,Wk.dget_of (k6 _ _ N.d) N.no,10857,Wk.dget_of (k6 _ _ N.d) N.no,al,5,.inl (k6.seq N.al),19,hpos,al,35,k6.seq N.al,hwb,bH,λtl htl=>?_];have s7:=aB.new (o:=.lst [V.str wa,V.str wb]) htl;have e7:=aE.of (K:=K) (aH (H:=H6) (a:=tl) (o:=.lst [V.str wa,V.str wb]));generalize upd H6 tl (.lst [V.str wa,V.str wb])=H7 at s7 e7 ⊢;show#[tl,rfl,#[_,e7],(let Jv8:Nat->St->Hp->Prop:=λn σ H8=>aB H7 H8/\∃v15 v16,σ=[⇑↥w.a,⇑↥ol,⇑↥nd,⇑(.int (hg:Nat)),⇑↥du,v5,v6,⇑(.int (nl:Nat)),v8,v9,v10,⇑(.int (j:Nat)),v12,v13,v14,v15,v16]; gB (xs:=[V.str wa,V.str wb]) Jv8 #[aB.refl _,9] ?_ ?_ ?_)]
     . rintro n σ H8 hn ⟨s8,_⟩;exact s8.seq e7
     . rintro n y σ H8 hy ⟨s8,v15,v16,rfl⟩;obtain⟨wd,rfl⟩:∃wd,y=V.str wd:=by
         have hm:=IA hy;simp only[Hh,ID,or_false] at hm;rcases hm with rfl|rfl
         . show#[5]
         . show#[5]
       have k8:=(k6\s7).trans s8;have ed8:=s8 _ _ (s7 _ _ (s6 _ _ ed5));show#[5,#[],#[],λpL hpL=>jz (lo:=0) (n:=2) (λj G v=>v=V.bl (decide (wd ∉ F2.nms F))) (λ_ _ _ _ _ z=>z) #[] hpL ?_ ?_]
       . rintro i G R_ hi sG ⟨acc,eacc⟩ kk;have kG:=k8\sG;rw[Io];show#[341,w,wt,_,wl,fns,cs,ms,Hb,i,_,wd,rfl,W.keep kG,.inr #[j,16,F,rfl,hi,LF,λH' s'=>kk _ _ s' rfl]]
       . rintro H9 vs s9 e9 l9 t9;obtain rfl:=uk l9 t9;have k9:=k8\s9;show#[341,du,35,aE.of (s9 _ _ ed8),bp hvf,qf,35,k9<*hqf,25,Wk.dget_of (k9 _ _ N.d) (by rw[LF.nm]; exact g1),nL,5,.inl (k9.seq g2),rfl,pN _,5,?_];by_cases hin:wd∈F2.nms F
         . exact aa (by rw[He rfl,sQ hin]; decide) (eW #[s8\s9,9])
         . refine ag (by rw[He rfl,ur hin]; rfl) #[5,bH,λt2 ht2=>?_];rw[Hf hin] at e9;have s10:=aB.new (o:=.lst [V.bl true,V.bl true]) ht2;let#[dt,lt,d1,d2]:=Bg.Twin.lst (K:=K) (n:=0) (aE.of (s10 _ _ e9)) (aE.of (aH (H:=H9) (a:=t2) (o:=.lst [V.bl true,V.bl true]))) (.of (.cons .bl (.cons .bl .nil)));exact wZ (n:=0+1) #[] lt d1 d2 #[5,iN #[(s8\s9).trans s10,9]]
     . rintro σ H8 ⟨s8,v15,v16,rfl⟩;show#[s6\(s7\s8),17]
   rintro σ H6 ⟨s6,v11,v15,v16,rfl⟩;exact q H6 (k5\s6)
def mC:FnScope ["_law_walker","_law_own","_law_cell","_law_box","_law_number_here","_law_at","_law_level"] ["_law_walker","_law_own","_law_cell","_law_box","_law_number_here"] (aS gX):=by walk_at "s"
def ux (T:Txt K mg t):FnOk P w K mg base CX0 6 t.xX t.yo ["_law_walker","_law_own","_law_cell","_law_box","_law_number_here"] (GJ K t):=by
 have Qz:=vM (P:=P) (w:=w) (base:=base) T;refine T.rP.F.ok mC (λvs H Q E h=>?_) (λcdv A outer s H vs Q E hr h=>?_)
 . let#[_,_,_,_,_,_,_,_,_,_,_,_,_,_,_,rfl,_]:=h;rfl
 . skip
   refine lx ?_;intro XX;refine(let W4:TS:=_; have hW4:aO XX ((aP gX).drop 4) W4:=(~~~(gR Bp (bJ (pv 0) T.aZ.cl T.lF.m Qz (hr*>#[]) T.lF.b .nil gM (pv 6>=>pv 3>=>pv 4>=>aD)) bW (af _))); ?_);refine(let W3:TS:=_; have hW3:aO XX ((aP gX).drop 3) W3:=(aI (pS 6 mC.nd (bU<$>pv 6<*>(bD<$>(cG<$>pv 2<*>aJ)<*>(ax j4 0x0 T.b_len bQ ((cB fH (cB fH (cB gg (pv 1) (pv 5) (λ_ _=>rfl)) aJ (λ_ _=>rfl)) aJ (λ_ _=>rfl))>=>aD))))) hW4); ?_);refine(let W2:TS:=_; have hW2:aO XX ((aP gX).drop 2) W2:=(aI (dJ (bV hr.units) (cB fH (cB gg (pv 1) (pv 5) (λ_ _=>rfl)) aJ (λ_ _=>rfl)) (pv 3) (pv 4) 0x0) hW3); ?_);refine(let W1:TS:=_; have hW1:aO XX ((aP gX).drop 1) W1:=(aI (pS 6 mC.nd (ax (Bu rfl) 0x0 T.b_sum D7 ((dL (N':=["_law_mark_here","_law_boxes"]) (js:=[none,none]) (by kernel_rfl) rfl (d6 (eM hJ (pv 1) eZ (dk (pv 5)))) (qU (ij (ij pf))) (λ_ _ _ _=>(show PG _ _ (jt K 2 _) from ck (n:=2) rfl (bG (aY (i:=0) (show(["_law_mark_here","_law_boxes"]:List Str).Nodup by decide +kernel) rfl 0x5 (.inr rfl)) (bG (aY (i:=1) (show(["_law_mark_here","_law_boxes"]:List Str).Nodup by decide +kernel) rfl 0x5 (.inr rfl)) cV)))) (λ_ _ _ _=>cj) (λ_ _ _ _=>(ax (show ao _ (.builtin "len") (Es K) from j4) 0x0 T.b_len bQ ((cB (show et _ (nq K) from fH) (pv 0) aJ (λ_ _=>rfl))>=>aD))))>=>aD))) hW2); ?_);let#[w,wt,wl,oc,Hd,Hb,L,fns,cs,ms,ol,us,c,b,z,rfl,W,D,l1,S,hol,hu,ne,q]:=h;show#[_,(aI (pS 5 mC.nd (bD<$>pv 2<*>(ax j4 0x0 T.b_len bQ (pv 1>=>aD)))) hW1),?_];have lu:=Rk2.Ps.len hu;have hL2:=S.hl;have hL1:0<L.length:=List.length_pos_iff.mpr ne;have b0:=W.b;let#[a,ha,ha']:=md c (us.length:Nat) ∅;show#[21,ol,5,.inl (b0.seq hol),19,∅,?_];show fQ 5 (V.int (c%(us.length:Nat))) _ _ _;rw[ha];obtain⟨x,hx⟩:∃x,L[a]?=⇑x:=#[_,HU ∅]
   have hxa:=(HV.mp hx).1;show#[85,ol,5,b0.seq hol,λsl hsl=>?_];rw[pR];have s1:=aB.new (o:=.lst (us.take a)) hsl;have e1:=aE.of (K:=K) (aH (H:=H) (a:=sl) (o:=.lst (us.take a)));generalize upd H sl (.lst (us.take a))=H1 at s1 e1 ⊢;show#[sl,rfl,#[_,e1],λpL hpL=>hV (K:=K) (λi G v=>∃x,(L.take a)[i]?=⇑x/\v=.int ((x.2.1.ch.length:Nat):Int)) (λ_ _ _ _ _ z=>z) (by rw[IE]; lia) e1 hpL ?_ ?_ (λ_ _ _ _ h z226_=>by let#[a,xs,e1,e2,e3,x1,r1,f1,x2,r2,f2,f3,z]:=z226_; show#[a,xs,e1,e2,e3,x1,r1,f1,x2,r2,f2,f3,h _ _ z])]
   . rintro i y G R_ hy sG ⟨acc,eacc⟩ kk;have hi:i<a:=by have:=(HV.mp hy).1; rw[IE] at this; lia
     rw[JE hi] at hy;obtain⟨v,hv,qa,mv,rfl,a1,⟨qm,ca,l,vv,rfl,m1,⟨cu,m2,m3⟩,m4,m5⟩⟩:=bt hu (HU (i:=i) ∅);rw[hy] at hv;cases hv;have kG:=(b0\s1).trans sG;have lc:=Rk2.Ps.len m3;show#[qa,5,kG<*a1,403,?_];show#[5,qm,35,kG<*m1,rfl,ca,cu,rfl,.inr (kG<*m2),kk _ _ (aB.refl _) #[L[i]'∅,by rw[JE hi,HU],by rw[lc]]]
   rintro H3 vs s3 e3 l3 t3;have ev:vs=((L.take a).map λx:Lf=>((x.2.1.ch.length:Nat):Int)).map V.int:=by
     apply List.ext_getElem?;intro i;rw[Iq,Hk];cases hv:vs[i]? with
     | none =>
       have:(L.take a)[i]?=none:=by rw[JZ] at hv ⊢; rw[IE] at l3 ⊢; lia
       rw[this]; rfl
     | some v =>
       let#[u,h1,h2]:=t3 i v hv;rw[h1,h2]; rfl
   rw[ev] at e3;show#[pL,5,aE.of e3,?_];rw[BE];have k3:=s1\s3;have W3:=W.keep k3;have b3:=W3.b;obtain⟨v,hux,qa,mv,rfl,a1,⟨qm,ca,l,vv,rfl,m1,⟨cu,m2,m3⟩,m4,m5⟩⟩:=bt hu hx;have M:=S.at_ a x hx;have hd:=W3.c.b _ _ (W3.at_ x (IA hx));have k1:=M.k1;show#[85,ol,35,b3.seq hol,bp hux,qa,35,b3<*a1,13,x.2.2,5,cU.k (k:=(Sum.inl b:aF)) hd (Rk2.lt_line' ∅),?_];have s4:aB (ers x.2.2 H3) (upd H3 x.2.2 (.dK (putK x.1.kvs (Sum.inl b:aF) (.int z)))):=qL;have e4:upd H3 x.2.2 (.dK (putK x.1.kvs (Sum.inl b:aF) (.int z))) x.2.2=_:=aH;generalize upd H3 x.2.2 (.dK (putK x.1.kvs (Sum.inl b:aF) (.int z)))=H4 at s4 e4 ⊢;obtain⟨A,B,rfl,rfl⟩:∃A B,L=A++x::B/\A.length=a:=by show#[L.take a,L.drop (a+1),?_,by rw[IE]; lia];have e:=(List.take_append_drop a L).symm;rw[Kh hxa,(HV.mp hx).2] at e;exact e
   have c4:CA t _ H4 w wt ((A++x::B).map (·.1)) oc [] ⟨[],0⟩ wl:=Own.putK W3.c (W3.at_ x (IA hx)) s4 e4;have d4:=W3.s.upd (o:=.dK (putK x.1.kvs (Sum.inl b:aF) (.int z))) (W3.no x (IA hx));have b4:=d4\c4.b;have lc:=Rk2.Ps.len m3;have ml1:=M.ok.l1;have ml3:=M.ok.l3;let#[r,hr,hr']:=md (c / 2) (cu.length:Nat) ∅;show#[339,#[#[],#[]],21,ol,35,b4.seq hol,bp hux,qa,35,b4<*a1,rfl,qm,35,b4<*m1,rfl,ca,cu,rfl,.inr (b4<*m2),19,∅,19,?_];rw[hr];obtain⟨p,hp⟩:∃p,x.2.1.ch[r]?=⇑p:=#[_,HU ∅]
   obtain⟨pl,hpl⟩:∃pl,x.2.1.vs[r]?=⇑pl:=#[_,HU (by rw[M.ok.p.len]; lia)]
   let#[F,LF]:=pi S hx hp hpl;have fi:=M.fi;rw[fi] at LF;show#[5,w.a,9,c4.o,213,w,wt,_,wl,fns,cs,ms,_,((dB (A++x::B) A.length+r:Nat):Int),b,z,rfl,#[oc,[],#[[],(0)],c4,D.mono d4,l1,by rw[HS]; lia],.inl #[_,x.1,x.2.1,p,pl,rfl,LF.lv,LF.c,∅,λH5 s5 e5=>?_]];show#[true,true,7,q A x B _ H5 rfl (W3.fill s4 e4 s5 e5)]
def fj:FnScope ["_law_walker","_law_names_here","_law_marks","_law_now","_law_more","_law_far","_law_given","_law_box","_law_cell","_law_number_here","_law_new","_law_k","_law_own","e"] ["_law_walker","_law_names_here","_law_marks","_law_now","_law_more"] (aS da):=by walk_at "s"
def EY (T:Txt K mg t):FnOk P w K mg base CX0 18 t.xq t.z8 ["_law_walker","_law_names_here","_law_marks","_law_now","_law_more"] (Ai K t):=by
 have Qc:=wk (P:=P) (w:=w) (base:=base) T;have Qe:FnOk P w K mg base CX0 11 t.lN t.lQ ["_law_one","_law_boxes"] (ny K 10):=pB T 10;have QA:=ux (P:=P) (w:=w) (base:=base) T;have Qo:=zj (P:=P) (w:=w) (base:=base) T;have Qj:=oO (P:=P) (w:=w) (base:=base) T;have Q0:FnOkH P w K mg base 1 t.rM t.rO ["self"] (tJ K t):=F4 T;refine T.zP.F.ok fj (λvs H Q E h=>?_) (λcdv A outer s H vs Q E hr h=>?_)
 . let#[_,_,_,_,_,_,_,_,_,_,_,_,_,_,_,_,rfl,_]:=h;rfl
 . skip
   refine lx ?_;intro XX;refine(let W10:TS:=_; have hW10:aO XX ((aP da).drop 10) W10:=(~~~bW); ?_);refine(let W9:TS:=_; have hW9:aO XX ((aP da).drop 9) W9:=(aI (sy (j:=13) fj.nd rfl rfl T.x_gE rfl rfl (kf (DJ (aA 0) T.aZ.cl T.gU.m Qo (hr*>#[]) T.gU.b)) (λ_=>(~~~(g7 (ax (show ao _ (.builtin "isinstance") (iy K mg) from jx) 0x0 T.b_isinstance dg (aA 13>=>iI T.cg.g>=>aD)) (g7 (qN (ax (show ao _ (.builtin "isinstance") (iy K mg) from jx) 0x0 T.b_isinstance dg (aA 13>=>iI T.x_nN.g>=>aD))) (i7 (gR ay (Fu (aA 0) T.aZ.cl T.rF.m Q0 (hr.hdm #[]) T.rF.b) (aA 5) (af _)))))))) hW10); ?_);refine(let W8:TS:=_; have hW8:aO XX ((aP da).drop 8) W8:=(aI (ae (@PW.pt _ _ _ (dF (eF (i3 (gk (aA 0) T.aZ.cl T.gU.m Qo (hr*>#[]) T.gU.b .nil gM))) (dF (cT (cL (cD T.ia Qc hr (aA 0>=>bE aD>=>aA 1>=>aJ>=>aD)))) (eu (aj E9 (gk (aA 0) T.aZ.cl T.iW.m Qj (hr*>#[]) T.iW.b .nil bM) bW (af _)))))) (~~~bW) ac) hW9); ?_);refine(let W7:TS:=_; have hW7:aO XX ((aP da).drop 7) W7:=(aI (ae (@PW.pt _ _ _ (dF (eF (i3 (gk (aA 0) T.aZ.cl T.gU.m Qo (hr*>#[]) T.gU.b .nil gM))) (eu (cT (cL (cD T.ia Qc hr (aA 0>=>(bE ((bA ((iL K (aA 2))>=>aA 3>=>aD))>=>aD))>=>aA 1>=>aJ>=>aD))))))) (~~~bW) ac) hW8); ?_);refine(let W6:TS:=_; have hW6:aO XX ((aP da).drop 6) W6:=(aI (ae (@PW.pt _ _ _ (dF (cT (cL (cD T.rP QA hr (aA 0>=>aA 12>=>aA 8>=>aA 7>=>aA 9>=>aD)))) (eu (cT (cL (cD T.ia Qc hr (aA 0>=>aA 12>=>aA 1>=>aJ>=>aD))))))) (~~~bW) ac) hW7); ?_);refine(let W5:TS:=_; have hW5:aO XX ((aP da).drop 5) W5:=(aI (ae (@PW.pt _ _ _ (dF (eF (i3 (gk (aA 0) T.aZ.cl T.gU.m Qo (hr*>#[]) T.gU.b .nil gM))) (eu (cT (cL (cD T.ia Qc hr (aA 0>=>aA 12>=>aA 1>=>(aw bU<$>aJ<*>aA 5)>=>aD))))))) (~~~bW) ac) hW6); ?_);refine(let W4:TS:=_; have hW4:aO XX ((aP da).drop 4) W4:=(aI (pS 12 fj.nd (bE ((bA ((iL K (aA 2))>=>aA 3>=>aD))>=>(bA ((iL K (aA 2))>=>aA 10>=>aD))>=>aD))) hW5); ?_);refine(let W3:TS:=_; have hW3:aO XX ((aP da).drop 3) W3:=(aI (bq PassesOwn.never rfl (ci rfl T.b_range ((ax 0x1 0x0 T.b_len bQ (aA 6>=>aD))>=>aD)) (aY (i:=11) fj.nd rfl 0x5) (@aK _ _ _ (dJ (bV hr.units) (aA 10) (aA 11) (cD T.jW Qe hr ((iY K (aA 6) (aA 11))>=>aA 3>=>aD)) 0x0))) hW4); ?_);refine(let W2:TS:=_; have hW2:aO XX ((aP da).drop 2) W2:=(aI (pS 10 fj.nd dm) hW3); ?_);refine(let W1:TS:=_; have hW1:aO XX ((aP da).drop 1) W1:=(aI (ae (cT (cL (cD T.ia Qc hr (aA 0>=>(bE ((bA ((iL K (aA 2))>=>aA 3>=>aD))>=>aD))>=>aA 1>=>(aw bU<$>aJ<*>aA 5)>=>aD)))) (~~~bW) ac) hW2); ?_);let#[w,wt,Hd,Hb,f,X,nd,al,ml,d,mo,gl,gu,b,c,z,rfl,W,D,N,hM,hmo,hgl,hgu,z0,z1,ok,q]:=h;show#[_,(aI (gS (aA 4) (E7 rfl (bG (aY (i:=5) fj.nd rfl 0x5) (bG (aY (i:=6) fj.nd rfl 0x5) (bG (aY (i:=7) fj.nd rfl 0x5) (bG (aY (i:=8) fj.nd rfl 0x5) (bG (aY (i:=9) fj.nd rfl 0x5) cV))))))) hW1),?_];let#[v0,v1,v2,v3,M1,V0,V1,V2,V3]:=hM;let#[sp2,y1,y2,y3,y4]:=ok.sp2;let#[sp0,x1,x2]:=ok.sp0;let#[mk2,a1,a2,a3,a4]:=ok.mk2;let#[mk0,c1,c2]:=ok.mk0;have b0:=W.b;have lgu:=Rk2.Ps.len hgu;have tl:=ok.tl;have n1:=ok.k1.l3;have f5:=ok.f5;have fr:=ok.fr;let#[fa,fdx,fbx,ffn,fsp,fkv,ff]:=f;obtain rfl:ffn=X.o2:=ok.f1;obtain rfl:fsp=0:=ok.f2;obtain rfl:ff=0:=ok.f3;have f4:Rk2.DV fkv:=ok.f4;have f5:fkv.length<=100:=ok.f5;show#[5,mo,5,b0.seq hmo,205971,?_];show#[21,ml,35,b0.seq M1,13,bH,λp1 ni1=>#[eh,λp2 ni2=>?_]];have j1:=aB.new (o:=.tup [v0,↥d]) ni1;have q1:=aG.of (K:=K) (aH (H:=H) (a:=p1) (o:=.tup [v0,↥d]));generalize upd H p1 (.tup [v0,↥d])=G1 at j1 q1 ni2 ⊢;have j2:=aB.new (o:=.lst [↥p1]) ni2;have q2:=aE.of (K:=K) (aH (H:=G1) (a:=p2) (o:=.lst [↥p1]));generalize upd G1 p2 (.lst [↥p1])=G2 at j2 q2  ⊢;have j:=j1\j2;have WG:=W.keep j;have kG:=b0\j;show#[339,w,wt,[],X.fns,X.cs,X.ms,_,[(#[fa,fdx,fbx,X.o2,(0),fkv,(0)],X.m0,d)],nd,al,p2,X.kn,X.ws,[↥p1],1+X.far,rfl,#[8,WG.c,D.mono WG.s,(by simp <;> lia),0x6],oG ok.fn #[mk2,a1,a2] ok.k0 f4 (by show fkv.length<=_; lia) rfl,N.mono kG,q2,#[#[p1,v0,rfl,j2<*q1,V0.mono kG,WG.c.b _ _ (WG.at_ _ Hj)],trivial],λH3 s3=>#[5,iN ?_]];have W3:=WG.keep s3;clear j1 j2 j q1 q2 WG kG s3;intro e he;have b3:=W3.b;have hd3:H3 d=⇑(.dK fkv):=W3.c.b _ _ (W3.at_ _ Hj);have nde:d≠e:=λz=>by rw[<- z,hd3] at he; cases he
   have okW:∀z∈X.ts.map (Rk2.wv (Rk2.fOf fkv)),0<=z/\z<K21.wide:=λz hz=>by let#[u,hu,rfl]:=IJ.mp hz;exact A9 f4 (ok.ts u hu)
   have lW:((X.ts.map (Rk2.wv (Rk2.fOf fkv))).map V.int).length=gu.length:=by rw[HS,HS]; lia
   have s4:=aB.new (o:=.dK []) he;show#[5,gl,5,.inl ((b3\s4).seq hgl),5,∅,∅,(let Jv1:Nat->St->Hp->Prop:=λi σ H4=>H4=upd H3 e (.dK (bX (((X.ts.map (Rk2.wv (Rk2.fOf fkv))).map V.int).take i)))/\∃v,σ=[⇑↥w.a,⇑↥nd,⇑↥ml,⇑↥d,⇑↥mo,⇑(.int (X.far:Nat)),⇑↥gl,⇑(.int b),⇑(.int c),⇑(.int z),⇑↥e,v,none,none]; eR (lo:=0) (n:=gu.length) Jv1 #[13] ?_ ?_)]
   . rintro i σ H4 hi ⟨rfl,v,rfl⟩;have s4:=aB.new (o:=.dK (bX (((X.ts.map (Rk2.wv (Rk2.fOf fkv))).map V.int).take i))) he;have hi2:i<X.ts.length:=by lia
     let#[u,hu,ru]:=bt hgu (HU hi2);have hy:0xB[i]?=⇑(.int (Rk2.wv (Rk2.fOf fkv) X.ts[i])):=by rw[Hk,Hk,HU hi2]; rfl
     have e9:=(nz (ys:=(X.ts.map (Rk2.wv (Rk2.fOf fkv))).map V.int) (λy hy=>by let#[z,hz,rfl]:=IJ.mp hy; show#[z,rfl,okW z hz]) i ∅).2;have oku:=ok.ts _ (IT hi2);rw[Io];show#[21,gl,35,(b3\s4).seq hgl,bp hu,5,X.ts[i],u,d,fkv,rfl,oku.1,ru*>(b3\s4),s4 _ _ hd3,f4,oku.2,21,e,5,cU.k (k:=(Sum.inl (i:Int):aF)) aH (Rk2.lt_line' ∅),by rw[eX,pZ hy],5]
   clear s4;rintro σ H4 ⟨rfl,v,rfl⟩;rw[Ic ∅];have dv2:=(pV okW).1;have ln2:=(pV okW).2;rw[HS] at ln2;have s4:=aB.new (o:=.dK (bX 0xB)) he;have W4:=W3.add s4;have ee:Wk.gr Hb H3 (upd H3 e (.dK (bX 0xB))) e=⇑(.dK (bX 0xB)):=Wk.gr_new he aH;have hen:Hd e=none:=b3.free he;generalize Wk.gr Hb H3 (upd H3 e (.dK (bX 0xB)))=Hb4 at W4 ee;generalize upd H3 e (.dK (bX 0xB))=H4 at W4 ⊢;clear s4 W3 b3 hd3 W b0 okW lW;have b4:=W4.b;show#[5,ml,35,b4.seq M1,13,bH,λp1 ni1=>?_];have j1:=aB.new (o:=.tup [v1,↥d]) ni1;have q1:=aG.of (K:=K) (aH (H:=H4) (a:=p1) (o:=.tup [v1,↥d]));generalize upd H4 p1 (.tup [v1,↥d])=G1 at j1 q1  ⊢;have b5:=b4\j1;show#[5,ml,35,b5.seq M1,13,bH,λp2 ni2=>#[bH,λol ni3=>?_]];have j2:=aB.new (o:=.tup [v3,↥e]) ni2;have q2:=aG.of (K:=K) (aH (H:=G1) (a:=p2) (o:=.tup [v3,↥e]));generalize upd G1 p2 (.tup [v3,↥e])=G2 at j2 q2 ni3 ⊢;have j3:=aB.new (o:=.lst [↥p1,↥p2]) ni3;have q3:=aE.of (K:=K) (aH (H:=G2) (a:=ol) (o:=.lst [↥p1,↥p2]));generalize upd G2 ol (.lst [↥p1,↥p2])=G3 at j3 q3  ⊢;have j:=(j1\j2).trans j3;have W5:=W4.grow j;have sX:aB Hd (Wk.gr Hd H4 G3):=Wk.gr_same b4;have h5e:Wk.gr Hb4 H4 G3 e=⇑(.dK (bX 0xB)):=Wk.gr_same W4.c.b _ _ ee;have hen5:Wk.gr Hd H4 G3 e=none:=Wk.gr_own (W4.c.b _ _ ee) hen;have q1':aG K (Wk.gr Hd H4 G3) p1 [v1,↥d]:=qz ni1 ((j2\j3)<*q1);have q2':aG K (Wk.gr Hd H4 G3) p2 [v3,↥e]:=qz (j1.free ni2) (j3<*q2);have q3':aE K (Wk.gr Hd H4 G3) ol [↥p1,↥p2]:=qQ ((j1\j2).free ni3) q3;generalize Wk.gr Hb4 H4 G3=Hb5 at W5 h5e;generalize Wk.gr Hd H4 G3=Hx at W5 sX hen5 q1' q2' q3';clear W4 b4 b5 ee hen j q1 q2 q3 j1 j2 j3;have D5:=D.mono sX;have N5:=N.mono sX;have M5:=sX.seq M1;have V1':=V1.mono sX;have V2':=V2.mono sX;have V3':=V3.mono sX;clear D N M1 V0 V1 V2 V3 hgl hmo hgu sX;show#[5,w.a,9,W5.c.o,rfl,w.a,rfl,.inl #[w,wt,X.fns,X.cs,X.ms,Hb5,.non,[],#[[],(0)],[],[],#[fa,fdx,fbx,X.o2,(0),fkv,(0)],.call X.o0 X.ts 1,[],rfl,W5.c,D5.mono W5.s,Hw _,(show(0:Nat)<100 by decide),#[sp2,y1,y2],#[f4,by show fkv.length<=_; lia,(λu hu=>by cases hu),Hw _],ok.ts,by show X.ts.length<=_; lia,.inl #[X.o0,X.ts,(1),X.m1,rfl,#[mk2,a1,a3],by show 0+X.m1.ch.length<=_; lia,λx dx bx Hb7 H7 s7 c7=>#[5,iN ?_]]]];have c7:CA t Hb7 H7 w wt [⟨fa,fdx,fbx,X.o2,1,fkv,0⟩,⟨x,dx,bx,X.o0,0,(bX 0xB),0+X.m1.ch.length⟩] .non [] ⟨[],0⟩ (List.replicate X.m1.ch.length ↥fa):=c7;rw[KH] at c7;have w5d:Hb5 d=⇑(.dK fkv):=W5.at_ _ Hj;have w5n:Hx d=none:=W5.no _ Hj;have W7:Wm t Hx Hb7 H7 w wt [(⟨fa,fdx,fbx,X.o2,1,fkv,0⟩,X.m1,d),(⟨x,dx,bx,X.o0,0,(bX 0xB),X.m1.ch.length⟩,X.m3,e)] .non (List.replicate X.m1.ch.length ↥fa):=#[c7,W5.s.trans s7,λy hy=>by
     simp only[Hh,ID,or_false] at hy;rcases hy with rfl|rfl
     . exact s7 _ _ w5d
     . exact s7 _ _ h5e,λy hy=>by
     simp only[Hh,ID,or_false] at hy;rcases hy with rfl|rfl
     . exact w5n
     . exact hen5,by simp [nde]]
   have f5':fkv.length<=9000:=by lia
   have ln2':(bX 0xB).length<=9000:=by lia
   generalize (bX 0xB)=k2 at W7 dv2 ln2';clear W5 h5e s7 c7 f5 ln2;have hown:Rk2.Ps (gc K Hx) [↥p1,↥p2] [((⟨fa,fdx,fbx,X.o2,1,fkv,0⟩:Fm),X.m1,d),(⟨x,dx,bx,X.o0,0,k2,X.m1.ch.length⟩,X.m3,e)]:=#[#[p1,v1,rfl,q1',V1'],#[p2,v3,rfl,q2',V3'],trivial]
   have S7:StA X.fns X.ms (List.replicate X.m1.ch.length ↥fa) [((⟨fa,fdx,fbx,X.o2,1,fkv,0⟩:Fm),X.m1,d),(⟨x,dx,bx,X.o0,0,k2,X.m1.ch.length⟩,X.m3,e)]:=gj (f:=#[fa,fdx,fbx,X.o2,(1),fkv,(0)]) (g:=#[x,dx,bx,X.o0,(0),k2,X.m1.ch.length]) ok.fn #[mk2,a1,a3] ok.k1 f4 (by show fkv.length<=_; lia) rfl #[mk0,c1,c2] ok.k3 dv2 (by show k2.length<=_; lia) rfl;have b7:=W7.b;have lr:(List.replicate X.m1.ch.length (V.ref fa)).length<=100:=by rw[JQ]; lia
   show#[5459,w,wt,_,X.fns,X.cs,X.ms,Hb7,_,nd,al,ol,X.kn,X.ws,[↥p1,↥p2],1+X.far,rfl,#[8,W7.c,D5.mono W7.s,lr,(show(2:Nat)<=100 by decide)],S7,N5.mono b7,b7.seq q3',gc.A W7 (λ_ h=>h) hown,λH8 s8=>#[5,iN ?_]];have W8:=W7.keep s8;clear W7 s8 b7;show#[1365,w,wt,_,.non,Hx,Hb7,_,X.fns,X.cs,X.ms,ol,[↥p1,↥p2],c,b,z,rfl,W8,D5,lr,S7,q3',hown,by simp,λA0 x0 B0 Hb9 H9 eL W9=>#[5,iN ?_]];obtain⟨k1',k2',W9,g1,g2,g3,g4⟩:∃k1' k2',Wm t Hx Hb9 H9 w wt [((⟨fa,fdx,fbx,X.o2,1,k1',0⟩:Fm),X.m1,d),(⟨x,dx,bx,X.o0,0,k2',X.m1.ch.length⟩,X.m3,e)] .non (List.replicate X.m1.ch.length ↥fa)/\Rk2.DV k1'/\Rk2.DV k2'/\k1'.length<=10000/\k2'.length<=10000:=by
     cases A0 with
     | nil =>
       cases eL;show#[4,W9,Rk2.DV_put f4 z0 z1,dv2,?_,∅];have:=Rk2.putK_len fkv (Sum.inl b:aF) (.int z);exact Hu this ∅
     | cons y A0 =>
       cases A0 with
       | nil =>
         cases eL;show#[4,W9,f4,Rk2.DV_put dv2 z0 z1,∅,?_];have:=Rk2.putK_len k2 (Sum.inl b:aF) (.int z);exact Hu this ∅
       | cons y2 A0 =>
         have:=Hr List.length eL;simp at this
   clear W8 S7 hown;have S9:StA X.fns X.ms (List.replicate X.m1.ch.length ↥fa) [((⟨fa,fdx,fbx,X.o2,1,k1',0⟩:Fm),X.m1,d),(⟨x,dx,bx,X.o0,0,k2',X.m1.ch.length⟩,X.m3,e)]:=gj (f:=#[fa,fdx,fbx,X.o2,(1),k1',(0)]) (g:=#[x,dx,bx,X.o0,(0),k2',X.m1.ch.length]) ok.fn #[mk2,a1,a3] ok.k1 g1 (by show k1'.length<=_; lia) rfl #[mk0,c1,c2] ok.k3 g2 (by show k2'.length<=_; lia) rfl;have hown:Rk2.Ps (gc K Hx) [↥p1,↥p2] [((⟨fa,fdx,fbx,X.o2,1,k1',0⟩:Fm),X.m1,d),(⟨x,dx,bx,X.o0,0,k2',X.m1.ch.length⟩,X.m3,e)]:=#[#[p1,v1,rfl,q1',V1'],#[p2,v3,rfl,q2',V3'],trivial]
   have b9:=W9.b;show#[85,w,wt,_,X.fns,X.cs,X.ms,Hb9,_,nd,al,ol,X.kn,X.ws,[↥p1,↥p2],(2),rfl,#[8,W9.c,D5.mono W9.s,lr,(show(2:Nat)<=100 by decide)],S9,N5.mono b9,b9.seq q3',gc.A W9 (λ_ h=>h) hown,λH10 s10=>#[5,iN ?_]];have W10:=W9.keep s10;clear W9 s10 b9 S9 hown;show#[5,w.a,9,W10.c.o,rfl,w.a,rfl,.inl #[w,wt,X.fns,X.cs,X.ms,Hb9,.non,[],#[[],(0)],List.replicate X.m1.ch.length ↥fa,[#[fa,fdx,fbx,X.o2,(1),k1',(0)]],#[x,dx,bx,X.o0,(0),k2',X.m1.ch.length],.back (.num 1),[],rfl,W10.c,D5.mono W10.s,lr,(show(1:Nat)<100 by decide),#[sp0,x1,x2],#[g2,by show k2'.length<=_; lia,(λu hu=>by cases hu),Hw _],(λu hu=>by cases IC.mp hu; show#[by show(0:Nat)<10; decide,Rk2.okl_one #[] #[]]),(show(1:Nat)<=100 by decide),.inr #[.num 1,rfl,.inr #[[],#[fa,fdx,fbx,X.o2,(1),k1',(0)],[],none,(2),rfl,#[sp2,y1,y3],#[g1,by show k1'.length<=_; lia,(λu hu=>by cases hu),Hw _],λwt2 Hb11 H11 s11 c11=>#[5,iN ?_]]]]];have w10d:Hb9 d=⇑(.dK k1'):=W10.at_ _ Hj;have W11:Wm t Hx Hb11 H11 w wt2 [((⟨fa,fdx,fbx,X.o2,2,k1',0⟩:Fm),X.m2,d)] .non []:=#[c11,W10.s.trans s11,λy hy=>by
     cases IC.mp hy;exact s11 _ _ w10d,λy hy=>by
     cases IC.mp hy;exact w5n,by simp]
   clear W10 s11 c11;have b11:=W11.b;show#[21,ml,35,b11.seq M5,13,bH,λp1 ni1=>#[eh,λp2 ni2=>?_]];have j1:=aB.new (o:=.tup [v2,↥d]) ni1;have q1:=aG.of (K:=K) (aH (H:=H11) (a:=p1) (o:=.tup [v2,↥d]));generalize upd H11 p1 (.tup [v2,↥d])=G1 at j1 q1 ni2 ⊢;have j2:=aB.new (o:=.lst [↥p1]) ni2;have q2:=aE.of (K:=K) (aH (H:=G1) (a:=p2) (o:=.lst [↥p1]));generalize upd G1 p2 (.lst [↥p1])=G2 at j2 q2  ⊢;have j:=j1\j2;have WG:=W11.keep j;have kG:=b11\j;show#[5,w,wt2,[],X.fns,X.cs,X.ms,_,[((#[fa,fdx,fbx,X.o2,(2),k1',(0)]:Fm),X.m2,d)],nd,al,p2,X.kn,X.ws,[↥p1],(2),rfl,#[8,WG.c,D5.mono WG.s,(by simp <;> lia),0x6],oG ok.fn #[mk2,a1,a4] ok.k2 g1 (by show k1'.length<=_; lia) rfl,N5.mono kG,q2,#[#[p1,v2,rfl,j2<*q1,V2'.mono kG,WG.c.b _ _ (WG.at_ _ Hj)],trivial],λH12 s12=>#[5,iN ?_]];have W12:=WG.keep s12;clear j1 j2 j q1 q2 WG kG s12 W11 b11;show#[5,w.a,9,W12.c.o,rfl,w.a,rfl,.inl #[w,wt2,X.fns,X.cs,X.ms,Hb11,.non,[],#[[],(0)],[],[],#[fa,fdx,fbx,X.o2,(2),k1',(0)],.back (.num X.far),[],rfl,W12.c,D5.mono W12.s,Hw _,(show(0:Nat)<100 by decide),#[sp2,y1,y4],#[g1,by show k1'.length<=_; lia,(λu hu=>by cases hu),Hw _],(λu hu=>by cases IC.mp hu; show#[by show(0:Nat)<10; decide,Rk2.okl_one ∅ fr]),(show(1:Nat)<=100 by decide),.inr #[.num X.far,rfl,.inl #[rfl,λHb13 H13 s13 c13=>#[5,iN ?_]]]]];have c13:CA t Hb13 H13 w wt2 [] (.int (X.far:Nat)) [] ⟨[],0⟩ []:=c13;have s13:=W12.s.trans s13;clear W12;show#[5,cH,λl0 k0=>?_];have j:=aB.new (o:=.lst []) k0;have c14:=c13.keep j;show#[5,w,wt2,[],X.fns,X.cs,X.ms,Hb13,[],nd,al,l0,X.kn,X.ws,[],(2),rfl,#[8,c14,D5.mono s13,Hw _,Hw _],st0 ok.fn,N5.mono (s13\c14.b),aE.of aH,trivial,λH15 s15=>#[5,iN ?_]];have c15:=c14.keep s15;show#[5,w.a,9,c15.o,rfl,w,wt2,[],16,Hb13,rfl,c15,Hw _,true,true,29,iN ?_];show#[5,w.a,9,c15.o,rfl,w.a,rfl,.inr #[Hb13,w,wt2,33,c15,λH1 s1=>?_]];show#[t.cg,5,T.cg,T.e_Ended,λea hea=>?_];have s2:=aB.new (o:=XC ea t.cg none) hea;have hX:=aH (H:=H1) (a:=ea) (o:=XC ea t.cg none);have c16:=c15.keep (s1\s2);generalize upd H1 ea (XC ea t.cg none)=H2 at s2 hX c16 ⊢;show#[5,ea,129,hX,(λdx z=>by cases z),T.cg,rfl,T.k_Ended_Ended,5,iP #[5,ea,129,hX,(λdx z=>by cases z),T.cg,rfl,T.k_Ended_nN,21,iP #[5,w.a,9,c16.o,rfl,w,wt2,32,Hb13,rfl,c16,11,vq (Hr V.bl (Hf rfl)) (q H2)]]]
def cR:FnScope ["_law_script","_law_cells","_law_owns","_law_unlike","_law_words","_law_program","_law_k","_law_many","_law_names_here","_law_boxes","_law_args","_law_given","_law_marks","_law_far","_law_spots","_law_code","_law_table","_law_walker","_law_now","_law_more"] ["_law_script"] (aS cb):=by walk_at "s"
def ok_law (T:Txt K mg t):FnOk P w K mg base CX0 19 t.xt t.oM ["_law_script"] (sp_law K):=by
 have QD:=HE (P:=P) (w:=w) (base:=base) T;have Qp:=BX (P:=P) (w:=w) (base:=base) T;have Q1:=CN (P:=P) (w:=w) (base:=base) T;have Q2:=EY (P:=P) (w:=w) (base:=base) T;have Q3:=F0 (P:=P) (w:=w) (base:=base) T;have Qx:=vc (P:=P) (w:=w) (base:=base) T;have Q4:=G0 (P:=P) (w:=w) (base:=base) T;have Qc:=wk (P:=P) (w:=w) (base:=base) T;have QA:=ux (P:=P) (w:=w) (base:=base) T;have Q5:=CP (P:=P) (w:=w) (base:=base) T;refine T.law.F.ok cR (λvs H Q E h=>?_) (λcdv A outer s H vs Q E hr h=>?_)
 . let#[_,_,rfl,_]:=h;rfl
 . skip
   refine lx ?_;intro XX;refine(let W21:TS:=_; have hW21:aO XX ((aP cb).drop 21) W21:=(@aI _ _ _ _ _ (pS 19 cR.nd (@bE _ _ _ _ (@aN _ _ _ _ _ (aA 13) (@aN _ _ _ _ _ (aA 11) (@aN _ _ _ _ _ (iY K (aA 9) (aV bD<$>(iL K (aA 1))<*>aJ)) (@aN _ _ _ _ _ (iL K (aA 1)) (@aN _ _ _ _ _ (cD T.lS Qp hr (@aN _ _ _ _ _ (iL K (aA 1)) aD 0x0)) aD 0x0) 0x0) 0x0) 0x0) 0x0))) (~~~(cD T.zP Q2 hr (@aN _ _ _ _ _ (aA 17) (@aN _ _ _ _ _ (aA 8) (@aN _ _ _ _ _ (aA 12) (@aN _ _ _ _ _ (aA 18) (@aN _ _ _ _ _ (aA 19) aD 0x0) 0x0) 0x0) 0x0) 0x0)))); ?_);refine(let W19:TS:=_; have hW19:aO XX ((aP cb).drop 19) W19:=(@aI _ _ _ _ _ (@ae _ _ _ _ _ _ _ _ (cT (cL (cD T.ia Qc hr (@aN _ _ _ _ _ (aA 17) (@aN _ _ _ _ _ (@bE _ _ _ _ (@aN _ _ _ _ _ (@bA _ _ _ _ _ (@aN _ _ _ _ _ (iL K (aA 12)) (@aN _ _ _ _ _ (aA 18) aD 0x0) 0x0)) aD 0x0)) (@aN _ _ _ _ _ (aA 8) (@aN _ _ _ _ _ (aw bU<$>aJ<*>aA 13) aD 0x0) 0x0) 0x0) 0x0)))) (~~~bW) ac) (@aI _ _ _ _ _ (@ae _ _ _ _ _ _ _ _ (cT (cL (cD T.rP QA hr (@aN _ _ _ _ _ (aA 17) (@aN _ _ _ _ _ (@bE _ _ _ _ (@aN _ _ _ _ _ (@bA _ _ _ _ _ (@aN _ _ _ _ _ (iL K (aA 12)) (@aN _ _ _ _ _ (aA 18) aD 0x0) 0x0)) aD 0x0)) (@aN _ _ _ _ _ (iL K (aA 1)) (@aN _ _ _ _ _ (iY K (aA 9) (aV bD<$>(iL K (aA 1))<*>aJ)) (@aN _ _ _ _ _ (cD T.lS Qp hr (@aN _ _ _ _ _ (iL K (aA 1)) aD 0x0)) aD 0x0) 0x0) 0x0) 0x0) 0x0)))) (~~~bW) ac) hW21)); ?_);refine(let W17:TS:=_; have hW17:aO XX ((aP cb).drop 17) W17:=(@aI _ _ _ _ _ (pS 18 cR.nd dm) (@aI _ _ _ _ _ (bq PassesOwn.never rfl (ci rfl T.b_range (@aN _ _ _ _ _ (ax 0x1 0x0 T.b_len bQ (@aN _ _ _ _ _ (aA 10) aD 0x0)) aD 0x0)) (aY (i:=6) cR.nd rfl 0x5) (@aK _ _ _ (dJ (bV hr.units) (aA 18) (aA 6) (iY K (aA 10) (aA 6)) 0x0))) hW19)); ?_);refine(let W15:TS:=_; have hW15:aO XX ((aP cb).drop 15) W15:=(@gT _ _ _ _ _ (pS 16 cR.nd (@bE _ _ _ _ (@aN _ _ _ _ _ (@bA _ _ _ _ _ (@aN _ _ _ _ _ (iL K (aA 2)) (@aN _ _ _ _ _ (@eM _ _ _ _ _ _ _ _ _ _ hJ (aA 12) (dk aJ) eZ) aD 0x0) 0x0)) (@aN _ _ _ _ _ (@bA _ _ _ _ _ (@aN _ _ _ _ _ (iL K (aA 2)) (@aN _ _ _ _ _ (@eM _ _ _ _ _ _ _ _ _ _ hJ (aA 12) (dk aJ) (dk aJ)) aD 0x0) 0x0)) (@aN _ _ _ _ _ (@bA _ _ _ _ _ (@aN _ _ _ _ _ (iL K (aA 2)) (@aN _ _ _ _ _ (@eM _ _ _ _ _ _ _ _ _ _ hJ (aA 12) eZ (dk aJ)) aD 0x0) 0x0)) aD 0x0) 0x0) 0x0))) (@aI _ _ _ _ _ (pS 17 cR.nd (pY T.aZ T.wo Q1 (hr*>#[]) (@aN _ _ _ _ _ (aA 5) (@aN _ _ _ _ _ (aA 15) (@aN _ _ _ _ _ (aA 16) (@aN _ _ _ _ _ (aA 10) aD 0x0) 0x0) 0x0) 0x0))) hW17)); ?_);refine(let W14:TS:=_; have hW14:aO XX ((aP cb).drop 14) W14:=(@gT _ _ _ _ _ (pS 15 cR.nd (@bE _ _ _ _ (@aN _ _ _ _ _ (@bA _ _ _ _ _ (@aN _ _ _ _ _ (iL K (aA 2)) (@aN _ _ _ _ _ (@bE _ _ _ _ (@aN _ _ _ _ _ (@bA _ _ _ _ _ (@aN _ _ _ _ _ (@bE _ _ _ _ aD) (@aN _ _ _ _ _ (@bA _ _ _ _ _ (@aN _ _ _ _ _ ah (@aN _ _ _ _ _ (@bA _ _ _ _ _ (@aN _ _ _ _ _ ah (@aN _ _ _ _ _ aJ aD 0x0) 0x0)) aD 0x0) 0x0)) aD 0x0) 0x0)) aD 0x0)) aD 0x0) 0x0)) (@aN _ _ _ _ _ (@bA _ _ _ _ _ (@aN _ _ _ _ _ (iL K (aA 2)) (@aN _ _ _ _ _ (@bE _ _ _ _ (@aN _ _ _ _ _ (@bA _ _ _ _ _ (@aN _ _ _ _ _ (@bE _ _ _ _ aD) (@aN _ _ _ _ _ (@bA _ _ _ _ _ (@aN _ _ _ _ _ ah (@aN _ _ _ _ _ (@bA _ _ _ _ _ (@aN _ _ _ _ _ ah (@aN _ _ _ _ _ aJ aD 0x0) 0x0)) aD 0x0) 0x0)) aD 0x0) 0x0)) aD 0x0)) aD 0x0) 0x0)) (@aN _ _ _ _ _ (@bA _ _ _ _ _ (@aN _ _ _ _ _ (iL K (aA 2)) (@aN _ _ _ _ _ (aA 14) aD 0x0) 0x0)) aD 0x0) 0x0) 0x0))) hW15); ?_);refine(let W13:TS:=_; have hW13:aO XX ((aP cb).drop 13) W13:=(@gT _ _ _ _ _ (pS 14 cR.nd (@bE _ _ _ _ (@aN _ _ _ _ _ (@bA _ _ _ _ _ (@aN _ _ _ _ _ (@bE _ _ _ _ aD) (@aN _ _ _ _ _ (@bA _ _ _ _ _ (@aN _ _ _ _ _ ah (@aN _ _ _ _ _ (iL K (aA 2)) (@aN _ _ _ _ _ (de jB 0x0 T.b_tuple gQ (@aN _ _ _ _ _ (aA 11) aD 0x0)) (@aN _ _ _ _ _ aJ aD 0x0) 0x0) 0x0) 0x0)) aD 0x0) 0x0)) (@aN _ _ _ _ _ (@bA _ _ _ _ _ (@aN _ _ _ _ _ (@bE _ _ _ _ aD) (@aN _ _ _ _ _ (@bA _ _ _ _ _ (@aN _ _ _ _ _ ah (@aN _ _ _ _ _ eE (@aN _ _ _ _ _ aJ aD 0x0) 0x0) 0x0)) aD 0x0) 0x0)) (@aN _ _ _ _ _ (@bA _ _ _ _ _ (@aN _ _ _ _ _ (@bE _ _ _ _ aD) (@aN _ _ _ _ _ (@bA _ _ _ _ _ (@aN _ _ _ _ _ ah (@aN _ _ _ _ _ (@bA _ _ _ _ _ (@aN _ _ _ _ _ ah (@aN _ _ _ _ _ (aA 13) aD 0x0) 0x0)) aD 0x0) 0x0)) aD 0x0) 0x0)) aD 0x0) 0x0) 0x0))) hW14); ?_);refine(let W12:TS:=_; have hW12:aO XX ((aP cb).drop 12) W12:=(@aI _ _ _ _ _ (pS 13 cR.nd (cD T.lS Qp hr (@aN _ _ _ _ _ (iL K (aA 1)) aD 0x0))) hW13); ?_);refine(let W11:TS:=_; have hW11:aO XX ((aP cb).drop 11) W11:=(@gT _ _ _ _ _ (mV (i:=12) cR.nd rfl 0x5 (N':=["_law_k","_law_program","_law_boxes","_law_cells"]) (js:=[none,some 5,some 9,some 1]) (by kernel_rfl) rfl (ci rfl T.b_range (@aN _ _ _ _ _ aJ aD 0x0)) dD (λ_ _ _ _=>(aY (i:=0) (show(["_law_k","_law_program","_law_boxes","_law_cells"]:List Str).Nodup by decide +kernel) rfl 0x5 (.inr rfl))) (λ_ _ _ _=>cj) (λ_ _ _ _=>(cD T.zL Q4 hr (@aN _ _ _ _ _ (iY K (aA 3) (aw bU<$>aJ<*>aA 0)) (@aN _ _ _ _ _ (aA 1) (@aN _ _ _ _ _ (iY K (@tj _ _ [V.int 2,V.int 2,V.int 2,V.int 0] (by kernel_rfl)) (aA 0)) (@aN _ _ _ _ _ (aA 2) aD 0x0) 0x0) 0x0) 0x0))) 0x0) hW12); ?_);refine(let W10:TS:=_; have hW10:aO XX ((aP cb).drop 10) W10:=(@gT _ _ _ _ _ (mV (i:=11) cR.nd rfl 0x5 (N':=["_law_k","_law_boxes","_law_cells"]) (js:=[none,some 9,some 1]) (by kernel_rfl) rfl (ci rfl T.b_range (@aN _ _ _ _ _ (ax 0x1 0x0 T.b_len bQ (@aN _ _ _ _ _ (iT K (iL K (aA 5))) aD 0x0)) aD 0x0)) dD (λ_ _ _ _=>(aY (i:=0) (show(["_law_k","_law_boxes","_law_cells"]:List Str).Nodup by decide +kernel) rfl 0x5 (.inr rfl))) (λ_ _ _ _=>cj) (λ_ _ _ _=>(cD T.rT Qx hr (@aN _ _ _ _ _ (iY K (aA 2) (aw bU<$>aJ<*>aA 0)) (@aN _ _ _ _ _ (aA 1) aD 0x0) 0x0))) 0x0) hW11); ?_);refine(let W9:TS:=_; have hW9:aO XX ((aP cb).drop 9) W9:=(@gT _ _ _ _ _ (mV (i:=10) cR.nd rfl 0x5 (N':=["_law_k","_law_cells"]) (js:=[none,some 1]) (by kernel_rfl) rfl (ci rfl T.b_range (@aN _ _ _ _ _ (ax 0x1 0x0 T.b_len bQ (@aN _ _ _ _ _ (iT K (iL K (aA 5))) aD 0x0)) aD 0x0)) dD (λ_ _ _ _=>(aY (i:=0) (show(["_law_k","_law_cells"]:List Str).Nodup by decide +kernel) rfl 0x5 (.inr rfl))) (λ_ _ _ _=>cj) (λ_ _ _ _=>(cD T.lS Qp hr (@aN _ _ _ _ _ (iY K (aA 1) (aw bU<$>aJ<*>aA 0)) aD 0x0))) 0x0) hW10); ?_);refine(let W8:TS:=_; have hW8:aO XX ((aP cb).drop 8) W8:=(@aI _ _ _ _ _ (pS 9 cR.nd (@bE _ _ _ _ (@aN _ _ _ _ _ aJ (@aN _ _ _ _ _ aJ (@aN _ _ _ _ _ aJ (@aN _ _ _ _ _ aJ (@aN _ _ _ _ _ aJ (@aN _ _ _ _ _ aJ (@aN _ _ _ _ _ (aw bU<$>aJ<*>(aV bD<$>(iL K (aA 1))<*>aJ)) (@aN _ _ _ _ _ (aw bU<$>aJ<*>(aV bD<$>(aV cG<$>(iL K (aA 1))<*>aJ)<*>aJ)) aD 0x0) 0x0) 0x0) 0x0) 0x0) 0x0) 0x0) 0x0))) hW9); ?_);refine(let W7:TS:=_; have hW7:aO XX ((aP cb).drop 7) W7:=(@gT _ _ _ _ _ (dJ (bV hr.units) (aA 8) ah (nc<$>(nc<$>(nc<$>(iL K (aA 4))<*>(iL K (aA 4)))<*>(iL K (aA 4)))<*>(@bE _ _ _ _ (@aN _ _ _ _ _ (nr<$>(cQ PySem.F.plainAttrs_str PySem.F.slot_str_join PySem.F.type_str_join vF ah (@aN _ _ _ _ _ (dL (N':=["_law_word"]) (js:=[none]) (by kernel_rfl) rfl (d6 (aA 2)) dD (λ_ _ _ _=>(aY (i:=0) (show(["_law_word"]:List Str).Nodup by decide +kernel) rfl 0x5 (.inr rfl))) (λ_ _ _ _=>cj) (λ_ _ _ _=>(@eM _ _ _ _ _ _ _ _ _ _ pb (aA 0) eZ (dk aJ)))) aD 0x0))<*>ah) aD 0x0))) 0x0) hW8); ?_);refine(let W6:TS:=_; have hW6:aO XX ((aP cb).drop 6) W6:=(@aI _ _ _ _ _ (pS 8 cR.nd (FT (qo (iL K (aA 2)) (iL K (aA 4)) (qo (iL K (aA 2)) (iL K (aA 4)) (qo (iL K (aA 2)) (iL K (aA 4)) Au))) 0x0 0x0 0x6 #[])) hW7); ?_);refine(let W5:TS:=_; have hW5:aO XX ((aP cb).drop 5) W5:=(@aI _ _ _ _ _ (bq PassesOwn.never rfl (ci rfl T.b_range (@aN _ _ _ _ _ aJ aD 0x0)) (aY (i:=6) cR.nd rfl 0x5) (@aI _ _ _ _ _ (@bS _ _ _ _ (cQ Ht IK IL fY (aA 4) (@aN _ _ _ _ _ (cD T.rR QD hr (@aN _ _ _ _ _ (iY K (aA 1) (aw bU<$>aJ<*>(aV bD<$>aA 6<*>aA 3))) (@aN _ _ _ _ _ (aw bU<$>aJ<*>(aV bD<$>(aV cG<$>(iL K (aA 1))<*>(iY K (@bE _ _ _ _ (@aN _ _ _ _ _ aJ (@aN _ _ _ _ _ aJ (@aN _ _ _ _ _ aJ aD 0x0) 0x0) 0x0)) (aA 6)))<*>aJ)) aD 0x0) 0x0)) aD 0x0)) 0x0) (@aI _ _ _ _ _ (pS 7 cR.nd (aV bD<$>(aV cG<$>(iL K (aA 1))<*>(iY K (@bE _ _ _ _ (@aN _ _ _ _ _ aJ (@aN _ _ _ _ _ aJ (@aN _ _ _ _ _ aJ aD 0x0) 0x0) 0x0)) (aA 6)))<*>(aw bU<$>(ax 0x1 0x0 T.b_len bQ (@aN _ _ _ _ _ (iY K (aA 4) (aA 6)) aD 0x0))<*>aJ))) (@aK _ _ _ (@bS _ _ _ _ (cQ Ht IK IL fY (aA 5) (@aN _ _ _ _ _ (cD T.zK Q5 hr (@aN _ _ _ _ _ (iY K (aA 2) (aA 6)) (@aN _ _ _ _ _ (iY K (aA 4) (aA 6)) (@aN _ _ _ _ _ (aA 7) aD 0x0) 0x0) 0x0)) aD 0x0)) 0x0))))) hW6); ?_);refine(let W3:TS:=_; have hW3:aO XX ((aP cb).drop 3) W3:=(@aI _ _ _ _ _ (pS 4 cR.nd (@bE _ _ _ _ aD)) (@aI _ _ _ _ _ (pS 5 cR.nd (@bE _ _ _ _ aD)) hW5)); ?_);let#[a,ns,rfl,hS,hL,q]:=h;show#[_,(@aI _ _ _ _ _ (pS 1 cR.nd (dL (N':=["_law_k","_law_script"]) (js:=[none,some 0]) (by kernel_rfl) rfl (ci rfl T.b_range (@aN _ _ _ _ _ aJ aD 0x0)) dD (λ_ _ _ _=>(aY (i:=0) (show(["_law_k","_law_script"]:List Str).Nodup by decide +kernel) rfl 0x5 (.inr rfl))) (λ_ _ _ _=>cj) (λ_ _ _ _=>(cD T.zH Q3 hr (@aN _ _ _ _ _ (aA 1) (@aN _ _ _ _ _ (aA 0) aD 0x0) 0x0))))) (@aI _ _ _ _ _ (pS 2 cR.nd (cD T.rR QD hr (@aN _ _ _ _ _ (iL K (aA 1)) (@aN _ _ _ _ _ aJ aD 0x0) 0x0))) (@aI _ _ _ _ _ (pS 3 cR.nd (aw bU<$>aJ<*>(aV bD<$>(aV cG<$>(iL K (aA 1))<*>aJ)<*>aJ))) hW3))),?_];show#[5,#[],#[],λcl hcl=>(let Jv1:Nat->List V->Hp->Prop:=λi acc H2=>aB H H2/\H2 cl=⇑(.lst acc)/\∃zs:List Int,acc=zs.map V.int/\zs.length=i; nP (lo:=0) (n:=24) #[] Jv1 #[aB.new hcl,aH,[],7] ?_ ?_ ?_)]
   . rintro i acc H2 hi ⟨s2,e2,zs,rfl,lz⟩;show#[e2,by rw[HS,lz]; exact HY _]
   . rintro i acc H2 hi ⟨s2,e2,zs,rfl,lz⟩;show#[21,a,ns,5,s2.seq hS,hL,∅,λz=>#[e2,s2.upd hcl,aH,zs++[z],?_,by rw[HZ,lz]; rfl]];rw[Hq];rfl
   rintro acc H1 ⟨-,e_cl,cc,rfl,lc⟩;let#[c0,hc0]:=df lc 0 #[];let#[c4,hc4]:=df lc 4 #[];let#[c5,hc5]:=df lc 5 #[];let#[c16,hc16]:=df lc 16 #[];let#[c17,hc17]:=df lc 17 #[];let#[c18,hc18]:=df lc 18 #[];let#[c19,hc19]:=df lc 19 #[];let#[c20,hc20]:=df lc 20 #[];let#[c21,hc21]:=df lc 21 #[];let#[c22,hc22]:=df lc 22 #[];have F:=(Al.nil (H:=H1)).add e_cl;show#[5,cl,35,aE.of F.2.1,hc0,c0,(3),rfl,#[],λow w3 ond onm one ol H2 sn hol e_ol=>?_];have F:=F.mono sn; have F:=F.re; have F:=F.add e_ol
   obtain⟨o0,o1,o2,rfl⟩:∃x y z,ow=[x,y,z]:=by match ow,w3 with | [x,y,z],_=>exact⟨x,y,z,rfl⟩
   obtain⟨un,hun,un1⟩:∃un:Nat,1+c0 / 5%3=(un:Int)/\(1<=un/\un<=3):=by let#[r,h1,h2]:=md (c0 / 5) 3 #[];show#[1+r,∅,∅]
   show#[5,cl,35,aE.of F.2.2.1,hc0,19,#[#[],#[]],19,(show(0:Int)<3 by decide),19,?_];show fQ 3 (V.int (1+c0 / 5%3)) _ _ _;rw[hun];show#[cH,λwl hwl=>#[cH,λpl hpl=>?_]];have nwp:wl≠pl:=λz=>by rw[<- z,aH] at hpl; cases hpl
   have t1:=aB.new (o:=.lst []) hwl;have hplH:=t1.free hpl;have t2:=t1\(aB.new (o:=.lst []) hpl);have ew:upd (upd H2 wl (.lst [])) pl (.lst []) wl=⇑(.lst []):=by rw[aM nwp]; exact aH
   have ep:upd (upd H2 wl (.lst [])) pl (.lst []) pl=⇑(.lst []):=aH;generalize upd (upd H2 wl (.lst [])) pl (.lst [])=H3 at t2 ew ep ⊢;show#[5,#[],#[],(let Jv2:Nat->St->Hp->Prop:=λi σ G=>aB H2 G/\∃v6 v7,∃M:List (L6×F2.Fd),σ=[⇑↥a,⇑↥cl,⇑↥ol,⇑(.int (un:Int)),⇑↥wl,⇑↥pl,v6,v7,none,none,none,none,none,none,none,none,none,none,none,none]/\G wl=⇑(.lst (M.map λx=>V.ref x.1))/\G pl=⇑(.lst (M.map λx=>V.ref x.2.fa))/\M.length=i/\∀j x,M[j]?=⇑x->FwA K (ers pl (ers wl G)) [o0,o1,o2] j x; eR (lo:=0) (n:=3) Jv2 #[t2,4,[],rfl,ew,ep,rfl,λj x h=>by simp at h] ?_ ?_)]
   . rintro i σ G hi ⟨s3,v6,v7,M,rfl,ew,ep,lM,fM⟩;rw[Io];have FH:=F;have F:=F.mono s3;obtain⟨d1,hd1,d10,d11⟩:∃d:Int,am [V.int 1,V.int 3,V.int 9] (i:Int)=⇑(.int d)/\0<d/\d<1000:=by
       obtain rfl|rfl|rfl:i=0\/i=1\/i=2:=by lia
       . show#[(1),rfl,#[],#[]]
       . show#[(3),rfl,#[],#[]]
       . show#[(9),rfl,#[],#[]]
     obtain⟨d2,hd2,d20,d21⟩:∃d:Int,am [V.int 27,V.int 108,V.int 432] (i:Int)=⇑(.int d)/\0<d/\d<1000:=by
       obtain rfl|rfl|rfl:i=0\/i=1\/i=2:=by lia
       . show#[(27),rfl,#[],#[]]
       . show#[(108),rfl,#[],#[]]
       . show#[(432),rfl,#[],#[]]
     obtain⟨oi,hoi,hom⟩:∃o,[o0,o1,o2][i]?=⇑o/\o∈[o0,o1,o2]:=#[_,HU hi,IT hi]
     obtain⟨cq,hcq⟩:∃z,am (cc.map V.int) (1+(i:Int)%(un:Int))=⇑(.int z):=by let#[r,h1,h2]:=md (i:Int) (un:Int) ∅;let#[z,hz]:=df lc (1+r) ∅;show#[z,by rw[h1,<- hz]; congr 1]
     obtain⟨mn,hmn,mn1⟩:∃n:Nat,1+c4 / d1%3=(n:Int)/\(1<=n/\n<=3):=by let#[r,h1,h2]:=md (c4 / d1) 3 #[];show#[1+r,∅,∅]
     show#[5,.inl #[6,aE.of ew],1363,∅,19,cl,35,aE.of F.2.2.1,hcq,5,cl,35,aE.of F.2.2.1,hc4,dY,λL1 hL1=>?_];have u1:=aB.new (o:=.lst [V.int 1,V.int 3,V.int 9]) hL1;show#[5,L1,35,aE.of aH,hd1,?_];generalize upd G L1 (.lst [V.int 1,V.int 3,V.int 9])=G1 at u1 ⊢;show#[19,#[∅,∅],19,(show(0:Int)<3 by decide),19,cq,mn,(Hr (λz=>[V.int cq,V.int z]) hmn),∅,λws lws nd nm ne wa G2 u2 hwa ewa=>?_];have u12:=u1\u2;have lMm:(M.map λx=>V.ref x.1).length=M.length:=HS _;have lMp:(M.map λx=>V.ref x.2.fa).length=M.length:=HS _;show#[wl,19,u12 _ _ ew,Rk2.lt_line' ∅,?_];have na:wa≠wl:=λz=>by rw[z,u1 _ _ ew] at hwa; cases hwa
     have na2:wa≠pl:=λz=>by rw[z,u1 _ _ ep] at hwa; cases hwa
     have ew3:upd G2 wl (.lst ((M.map λx=>V.ref x.1)++[V.ref wa])) wl=⇑(.lst ((M.map λx=>V.ref x.1)++[V.ref wa])):=aH;have ep3:upd G2 wl (.lst ((M.map λx=>V.ref x.1)++[V.ref wa])) pl=⇑(.lst (M.map λx=>V.ref x.2.fa)):=by rw[aM nwp.symm]; exact u12 _ _ ep
     have ea3:upd G2 wl (.lst ((M.map λx=>V.ref x.1)++[V.ref wa])) wa=⇑(.lst (ws.map V.str)):=by rw[aM na]; exact ewa
     have s4:aB H2 (upd G2 wl (.lst ((M.map λx=>V.ref x.1)++[V.ref wa]))):=(s3\u12).upd hwl;have sE3:aB (ers pl (ers wl G)) (ers pl (ers wl (upd G2 wl (.lst ((M.map λx=>V.ref x.1)++[V.ref wa]))))):=by rw[fW]; exact u12.ers.ers
     generalize upd G2 wl (.lst ((M.map λx=>V.ref x.1)++[V.ref wa]))=G3 at ew3 ep3 ea3 s4 sE3 ⊢;have F:Al H2 G3 _:=#[s4,gw.mono s4 FH.2]
     let#[m,hm,hm1]:=md (c4 / d2) ((ws.map V.str).length+1:Int) ∅;have lwm:(ws.map V.str).length=ws.length:=HS _;show#[5,cl,35,aE.of F.2.2.1,hc4,dY,λL2 hL2=>?_];have u4:=aB.new (o:=.lst [V.int 27,V.int 108,V.int 432]) hL2;show#[5,L2,35,aE.of aH,hd2,?_];generalize upd G3 L2 (.lst [V.int 27,V.int 108,V.int 432])=G4 at u4 ⊢;have hwi:am ((M.map λx=>V.ref x.1)++[V.ref wa]) (i:Int)=⇑↥wa:=bp (by rw[IS ∅,lMm,lM,Nat.sub_self]; rfl);show#[19,#[∅,∅],21,wl,35,aE.of (u4 _ _ ew3),hwi,wa,5,.inl (aE.of (u4 _ _ ea3)),307,∅,?_];show fQ 7 (V.int (c4 / d2%(((ws.map V.str).length:Nat)+1:Int))) _ _ _;rw[hm];have F:=F.mono u4;show#[5,.inl #[6,aE.of (u4 _ _ ep3)],21,ol,4,.str oi,7,aE.of F.2.1,bp (by rw[Hk,hoi]; rfl),21,wl,35,aE.of (u4 _ _ ew3),hwi,5,oi,wa,ws,m,rfl,aE.of (u4 _ _ ea3),(λz=>by rw[z] at lws; simp at lws; lia),∅,nd,nm,∅,λFn G5 u5 fA fN fM2 fP fL=>?_];have u45:=u4\u5;show#[pl,19,u45 _ _ ep3,Rk2.lt_line' ∅,(s4\u45).upd hplH,4,M++[(wa,Fn)],rfl,by rw[aM nwp,Hq]; exact u45 _ _ ew3,by rw[aH,Hq]; rfl,by rw[HZ,lM]; rfl,λj x hx=>?_];rw[j6,fW,j6];by_cases hj:j<M.length
     . rw[IV hj] at hx;exact(fM j x hx).mono (sE3\u45.ers.ers)
     . rw[IS ∅] at hx;have hz:j - M.length=0:=by
         have:=(HV.mp hx).1;simp at this
         lia
       rw[hz] at hx;cases hx;obtain rfl:j=i:=by lia
       have l5:=(u45 _ _ ew3)
       have p5:=(u45 _ _ ep3)
       show#[(by show ers pl (ers wl G5) wa=_; rw[ak na2,ak na,fM2]; exact u45 _ _ ea3),tf (xs:=M.map λx=>V.ref x.2.fa) (by rw[ak nwp.symm]; exact p5) (tf l5 fA),#[by rw[fM2]; exact nd,by rw[fM2]; lia,by rw[fN]; exact(onm oi hom).2,λw hw=>(nm w (by rw[<- fM2]; exact hw)).2,by rw[fM2]; exact fL,by show 0<Fn.rs.length; lia],by rw[hoi]; exact Hr some fN.symm,by show Fn.ps.length<=3; lia]
   rintro σ' H4 ⟨s4,v6,v7,M,rfl,e_wl,e_pl,lM,fM⟩;obtain⟨⟨w0,Fa⟩,⟨w1,Fb⟩,⟨w2,Fc⟩,rfl⟩:∃x y z,M=[x,y,z]:=by match M,lM with | [x,y,z],_=>exact⟨x,y,z,rfl⟩
   have A0:=(fM 0 _ rfl)*>(bK\bK);have A1:=(fM 1 _ rfl)*>(bK\bK);have A2:=(fM 2 _ rfl)*>(bK\bK);obtain rfl:o0=Fa.name:=Option.some.inj A0.nm;obtain rfl:o1=Fb.name:=Option.some.inj A1.nm;obtain rfl:o2=Fc.name:=Option.some.inj A2.nm;clear fM ew ep t1 t2 hwl hpl hplH nwp;have sn:=s4;have F:=F.mono sn; have F:=F.re; have F:=F.add e_wl; have F:=F.add e_pl
   intro nd hnd;have tn:=aB.new (o:=.dK []) hnd;show#[5,ol,35,aE.of (tn _ _ F.2.2.2.1),13,wl,35,aE.of (tn _ _ F.2.2.1),13,ol,35,aE.of (tn _ _ F.2.2.2.1),13,wl,35,aE.of (tn _ _ F.2.2.1),13,ol,35,aE.of (tn _ _ F.2.2.2.1),13,wl,35,aE.of (tn _ _ F.2.2.1),rfl,aH,[(Sum.inr Fa.name,↥w0),(Sum.inr Fb.name,↥w1),(Sum.inr Fc.name,↥w2)],rfl,(show(3:Nat)<=15 by decide),?_];rw[eX];show#[λσ' G=>∃(al:L6) (wz:Str),σ'=[⇑↥a,⇑↥cl,⇑↥ol,⇑(.int (un:Int)),⇑↥wl,⇑↥pl,v6,v7,⇑↥nd,none,none,none,none,none,none,none,none,none,none,none]/\aB H4 G/\G nd=⇑(.dK (putK (eN [] [(Sum.inr Fa.name,V.ref w0),(Sum.inr Fb.name,↥w1),(Sum.inr Fc.name,↥w2)]) (Sum.inr "":aF) ↥al))/\G al=⇑(.lst ((F2.nms Fa++F2.nms Fb++F2.nms Fc++[wz]).map V.str)),?_,?_]
   . have F:=F.mono (aB.new (o:=.dK (eN [] [(Sum.inr Fa.name,V.ref w0),(Sum.inr Fb.name,↥w1),(Sum.inr Fc.name,↥w2)])) hnd);have end_:upd H4 nd (.dK (eN [] [(Sum.inr Fa.name,V.ref w0),(Sum.inr Fb.name,↥w1),(Sum.inr Fc.name,↥w2)])) nd=⇑_:=aH;generalize upd H4 nd (.dK (eN [] [(Sum.inr Fa.name,V.ref w0),(Sum.inr Fb.name,↥w1),(Sum.inr Fc.name,↥w2)]))=B0 at F end_ ⊢;have l0:(F2.nms Fa).length<=20:=A0.ok.n1;have l1:(F2.nms Fb).length<=20:=A1.ok.n1;have l2:(F2.nms Fc).length<=20:=A2.ok.n1;show#[5,wl,35,aE.of F.2.2.1,13,wl,35,aE.of F.2.2.1,rfl,w0,w1,(F2.nms Fa).map V.str,(F2.nms Fb).map V.str,7,(A0.mono F.1).w,(A1.mono F.1).w,(by rw[HS,HS]; exact fC ∅),λq1 k=>?_];have k1:=aB.new (o:=.lst ((F2.nms Fa).map V.str++(F2.nms Fb).map V.str)) k;have F:=F.new (o:=.lst ((F2.nms Fa).map V.str++(F2.nms Fb).map V.str)) k; generalize upd B0 q1 _=B1 at F k1 ⊢;show#[5,wl,35,aE.of F.2.2.2.1,rfl,q1,w2,_,(F2.nms Fc).map V.str,7,F.2.1,(A2.mono F.1).w,(by rw[HZ,HS,HS,HS]; exact fC ∅),λq2 k=>?_];have k2:=k1\(aB.new (o:=.lst ((F2.nms Fa).map V.str++(F2.nms Fb).map V.str++(F2.nms Fc).map V.str)) k);have F:=F.new (o:=.lst ((F2.nms Fa).map V.str++(F2.nms Fb).map V.str++(F2.nms Fc).map V.str)) k; generalize upd B1 q2 _=B2 at F k2 ⊢;show#[13,ol,rfl,#[_,aE.of F.2.2.2.2.2.1],λu hu=>hV (K:=K) (λi G v=>∃s:Str,v=.str s/\s.length<=1) (λ_ _ _ _ _ z=>z) (xs:=[Fa.name,Fb.name,Fc.name].map V.str) (show(3:Nat)<=1000000 by decide) (aE.of F.2.2.2.2.2.1) hu ?_ ?_]
     . rintro i x G R_ hx sG ⟨acc,eacc⟩ kk;let#[s,hs,rfl]:=IJ.mp (IA hx);show#[21,s,rfl,Hu (onm s hs).1 (fC #[]),kk _ _ (aB.refl _) #[5,Bh (one s hs)]]
     rintro G3 vs u3 e3 l3 t3;let#[ys,rfl,hy]:=m6 t3;have l3:ys.length=3:=by rw[HS] at l3; exact l3
     have jl:=AE hy;have sl:∀l:List Str,(∀y∈l,y.length<=1)->(l.map (·.length)).sum<=l.length:=λl=>by
       induction l with
       | nil=>exact λ_=>HY _
       | cons x l ih =>
         intro h;have:=ih λy hy=>h y (Hv _ hy);have:=h x Hj;rw[IF,Kz,II]
         lia
     have sl:=sl ys hy;have F:=F.mono u3;have k3:=k2\u3;show#["",u,ys,7,aE.of e3,(by show _+ys.length * 0<=_; lia),19,(by show _+5<=_; exact fC ∅),eh,λq4 k=>?_];generalize hwz:PySem.Txt.join "" ys++("zzzzz":Str)=wz;have k4:=k3\(aB.new (o:=.lst [V.str wz]) k);have F:=F.new (o:=.lst [V.str wz]) k; generalize upd G3 q4 _=B3 at F k4 ⊢;show#[q2,q4,19,F.2.2.1,F.2.1,(by rw[HZ,HZ,HS,HS,HS]; exact fC (by show _+1<_; lia)),λal k=>?_];have k5:=k4\(aB.new (o:=.lst ((F2.nms Fa).map V.str++(F2.nms Fb).map V.str++(F2.nms Fc).map V.str++[V.str wz])) k);have F:=F.new (o:=.lst ((F2.nms Fa).map V.str++(F2.nms Fb).map V.str++(F2.nms Fc).map V.str++[V.str wz])) k; generalize upd B3 al _=B4 at F k5 ⊢;have ne:al≠nd:=λz=>by rw[z] at k; exact absurd (k4 _ _ end_) (by rw[k]; exact λz=>by cases z)
     show#[5,nd,5,cU.k (k:=(Sum.inr "":aF)) (k5 _ _ end_) (Rk2.lt_line' (J9 (Aq _ _) (show(0+3:Nat)<1000000 by decide))),al,wz,rfl,F.1.upd hnd,aH,by rw[aM ne]; simpa using F.2.1]
   rintro σ' H5 ⟨al,wz,rfl,sn,e_nd,e_al⟩;have F:=F.mono sn; have A0:=A0.mono F.1; have A1:=A1.mono F.1; have A2:=A2.mono F.1; have F:=F.re; have F:=F.add e_nd; have F:=F.add e_al
   show#[5,cl,35,aE.of F.2.2.2.2.2.2.1,hc5,19,(show(0:Int)<61 by decide),77,cl,35,aE.of F.2.2.2.2.2.2.1,hc5,19,#[#[],#[]],19,(show(0:Int)<61 by decide),19,(by show 8<=sizeLine; decide),λbl k=>?_];have hbs:Bg.BxL [0,1,2,3,4,5,6+c5%61,67+c5 / 61%61]:=#[rfl,λb hb=>by
     have y1:=Bg.emod_bd' c5 61 #[];have y2:=Bg.emod_bd' (c5 / 61) 61 #[];simp only[Hh,ID,or_false] at hb
     lia]
   have F:=F.new (o:=.lst [V.int 0,V.int 1,V.int 2,V.int 3,V.int 4,V.int 5,V.int (6+c5%61),V.int (67+c5 / 61%61)]) k; generalize upd H5 bl _=B1 at F ⊢;have F:Al H5 B1 ((bl,.lst ([0,1,2,3,4,5,6+c5%61,67+c5 / 61%61].map V.int))::_):=F;generalize [0,1,2,3,4,5,6+c5%61,67+c5 / 61%61]=bs at F hbs;have p0:Fa.ps.length<=3:=A0.p;have p2:Fc.ps.length<=3:=A2.p;show#[λσ' G=>∃(ar:L6) (zs:List Int),σ'=[⇑↥a,⇑↥cl,⇑↥ol,⇑(.int (un:Int)),⇑↥wl,⇑↥pl,v6,v7,⇑↥nd,⇑↥bl,⇑↥ar,none,none,none,none,none,none,none,none,none]/\aB B1 G/\G ar=⇑(.lst (zs.map V.int))/\zs.length<=3/\∀z∈zs,0<=z/\z<K21.wide,?_,?_]
   . show#[5,pl,35,aE.of F.2.2.2.2.1,rfl,Fc.fa,35,(A2.mono F.1).f.fn,rfl,Fc.pa,5,.inr (A2.mono F.1).f.pr,5,by simp,(by rw[HS]; show((Fc.ps.length:Nat):Int)<_; lia),λar har=>(let Jv3:Nat->List V->Hp->Prop:=λi acc G=>aB B1 G/\G ar=⇑(.lst acc)/\∃zs:List Int,acc=zs.map V.int/\zs.length=i/\∀z∈zs,0<=z/\z<K21.wide; nP (lo:=0) (n:=(Fc.ps.map V.str).length) (by rw[HS]; lia) Jv3 #[aB.new har,aH,[],7,λz hz=>by cases hz] ?_ ?_ ?_)]
     . rintro i acc G hi ⟨s2,e2,zs,rfl,lz,bz⟩;show#[e2,by rw[HS,lz]; exact HY _]
     . rintro i acc G hi ⟨s2,e2,zs,rfl,lz,bz⟩;rw[HS] at hi;let#[c,hc]:=df lc (6+i) ∅;rw[Io];show#[339,cl,35,aE.of (s2 _ _ F.2.2.2.2.2.2.2.1),(by rw[<- hc]; congr 1),c,rfl,λz z0 z1=>#[e2,s2.upd har,aH,zs++[z],?_,by rw[HZ,lz]; rfl,λy hy=>?_]]
       . rw[Hq];rfl
       . rcases IH.mp hy with hy|hy
         . exact bz y hy
         . cases IC.mp hy;show#[z0,z1]
     . rintro acc G ⟨sn,e_ar,zs,rfl,lz,bz⟩;show#[ar,zs,rfl,sn,e_ar,by rw[lz,HS]; exact p2,bz]
   rintro σ' H6 ⟨ar,zs,rfl,sn,e_ar,lz,bz⟩;have F:=F.mono sn; have A0:=A0.mono F.1; have A1:=A1.mono F.1; have A2:=A2.mono F.1; have F:=F.re; have F:=F.add e_ar
   show#[λσ' G=>∃(gl:L6) (gu:List V) (ts:List Rk2.Tr),σ'=[⇑↥a,⇑↥cl,⇑↥ol,⇑(.int (un:Int)),⇑↥wl,⇑↥pl,v6,v7,⇑↥nd,⇑↥bl,⇑↥ar,⇑↥gl,none,none,none,none,none,none,none,none]/\aB H6 G/\G gl=⇑(.lst gu)/\Rk2.Ps (Rk2.RAt G) gu ts/\(∀u∈ts,dO u)/\ts.length=gu.length/\gu.length<=3,?_,?_]
   . show#[5,pl,35,aE.of F.2.2.2.2.2.1,rfl,Fa.fa,35,A0.f.fn,rfl,Fa.pa,5,.inr A0.f.pr,5,by simp,(by rw[HS]; show((Fa.ps.length:Nat):Int)<_; lia),λgl hgl=>jz (lo:=0) (n:=(Fa.ps.map V.str).length) (λi G v=>∃u,Rk2.RAt G u v/\Bg.TOk' 7 u) (λ_ _ _ _ z z227_=>by let#[u,z1,z2]:=z227_; show#[u,z1*>z,z2]) (by rw[HS]; lia) hgl ?_ ?_]
     . rintro i G R_ hi sG ⟨acc,eacc⟩ kk;rw[HS] at hi;let#[c,hc]:=df lc (9+i) ∅;rw[Io];show#[339,cl,35,aE.of (sG _ _ F.2.2.2.2.2.2.2.2.1),(by rw[<- hc]; congr 1),5,c,bl,bs,rfl,aE.of (sG _ _ F.2.2.1),hbs,λtr v G2 sn r2 t2=>kk _ _ sn #[tr,ph (sn _ _ eacc) r2,t2]]
     . rintro G gu sn e_gl lgu tg;obtain⟨ts,hts,tsk,ltk⟩:∃ts:List Rk2.Tr,Rk2.Ps (Rk2.RAt G) gu ts/\(∀u∈ts,dO u)/\ts.length=gu.length:=uL λi v hv=>by let#[u,z1,z2]:=tg i v hv;show#[u,z1*>bK,wT z2]
       show#[gl,gu,ts,rfl,sn,e_gl,hts,tsk,ltk,by rw[lgu,HS]; exact p0]
   rintro σ' H7 ⟨gl,gu,ts,rfl,sn,e_gl,hts,tsk,ltk,lgu⟩;have F:=F.mono sn; have A0:=A0.mono F.1; have A1:=A1.mono F.1; have A2:=A2.mono F.1; have F:=F.re; have F:=F.add e_gl
   show#[λσ' G=>∃(ma:L6) (v0 v1 v2 v3:V) (m0 m1 m2 m3:Cw.Mk),σ'=[⇑↥a,⇑↥cl,⇑↥ol,⇑(.int (un:Int)),⇑↥wl,⇑↥pl,v6,v7,⇑↥nd,⇑↥bl,⇑↥ar,⇑↥gl,⇑↥ma,none,none,none,none,none,none,none]/\aB H7 G/\G ma=⇑(.lst [v0,v1,v2,v3])/\dE K G m0 v0/\dE K G m1 v1/\dE K G m2 v2/\dE K G m3 v3/\MkOk [Fa,Fb,Fc] m0/\MkOk [Fa,Fb,Fc] m1/\MkOk [Fa,Fb,Fc] m2/\MkOk [Fa,Fb,Fc] m3,?_,?_]
   . show#[5,#[],#[],λma hma=>jz (lo:=0) (n:=4) (λi G v=>∃m,dE K G m v/\MkOk [Fa,Fb,Fc] m) (λ_ _ _ _ z z228_=>by let#[u,z1,z2]:=z228_; show#[u,z1*>z,z2]) #[] hma ?_ ?_]
     . rintro i G R_ hi sG ⟨acc,eacc⟩ kk;let#[c,hc]:=df lc (12+i) ∅;obtain⟨fi,hfi,fi3⟩:∃fi:Nat,am [V.int 2,V.int 2,V.int 2,V.int 0] (i:Int)=⇑(.int fi)/\fi<3:=by
         obtain rfl|rfl|rfl|rfl:i=0\/i=1\/i=2\/i=3:=by lia
         . show#[(2),rfl,#[]]
         . show#[(2),rfl,#[]]
         . show#[(2),rfl,#[]]
         . show#[(0),rfl,#[]]
       rw[Io];show#[339,cl,35,aE.of (sG _ _ F.2.2.2.2.2.2.2.2.2.1),(by rw[<- hc]; congr 1),5,gF,λL4 k4=>?_];have s4:=sG\(aB.new (o:=.lst [V.int 2,V.int 2,V.int 2,V.int 0]) k4);have e4:=(aB.new (o:=.lst [V.int 2,V.int 2,V.int 2,V.int 0]) k4)
       show#[5,L4,35,aE.of aH,hfi,?_];generalize upd G L4 (.lst [V.int 2,V.int 2,V.int 2,V.int 0])=G4 at s4 e4 ⊢;show#[5,c,pl,bl,[Fa,Fb,Fc],fi,bs,rfl,aE.of (s4 _ _ F.2.2.2.2.2.2.1),rfl,(λf hf=>?_),fi3,aE.of (s4 _ _ F.2.2.2.1),hbs,λm v G5 s5 m5 ok5 _=>kk _ _ (e4\s5) #[m,m5.er (s5 _ _ (e4 _ _ eacc)) (by rw[e4 _ _ eacc]; exact λz=>by cases z),ok5]];simp only[Hh,ID,or_false] at hf;rcases hf with rfl|rfl|rfl
       . show#[F2.FnAt.mono s4 A0.f,A0.ok]
       . show#[F2.FnAt.mono s4 A1.f,A1.ok]
       . show#[F2.FnAt.mono s4 A2.f,A2.ok]
     . rintro G vs sn e_ma lv tv;obtain⟨v0,v1,v2,v3,rfl⟩:∃x y z w,vs=[x,y,z,w]:=by match vs,lv with | [x,y,z,w],_=>exact⟨x,y,z,w,rfl⟩
       let#[m0,g0,ok0]:=tv 0 _ rfl;let#[m1,g1,ok1]:=tv 1 _ rfl;let#[m2,g2,ok2]:=tv 2 _ rfl;let#[m3,g3,ok3]:=tv 3 _ rfl;show#[ma,v0,v1,v2,v3,m0,m1,m2,m3,rfl,sn,e_ma,g0*>bK,g1*>bK,g2*>bK,g3*>bK,ok0,ok1,ok2,ok3]
   rintro σ' H8 ⟨ma,v0,v1,v2,v3,m0,m1,m2,m3,rfl,sn,e_ma,g0,g1,g2,g3,ok0,ok1,ok2,ok3⟩;have F:=F.mono sn; have A0:=A0.mono F.1; have A1:=A1.mono F.1; have A2:=A2.mono F.1; have hts:=Rk2.Ps.imp (λ_ _ z=>z*>F.1) hts; have F:=F.re; have F:=F.add e_ma
   show#[5,cl,35,aE.of F.2.2.2.2.2.2.2.2.2.2.1,hc16,c16,rfl,λfar far0 far1=>?_];let#[fr,rfl]:=Iv far0;show#[λσ' G=>∃(sp:L6) (us:List V),σ'=[⇑↥a,⇑↥cl,⇑↥ol,⇑(.int (un:Int)),⇑↥wl,⇑↥pl,v6,v7,⇑↥nd,⇑↥bl,⇑↥ar,⇑↥gl,⇑↥ma,⇑(.int (fr:Nat)),⇑↥sp,none,none,none,none,none]/\aB H8 G/\G sp=⇑(.lst us)/\Rk2.Ps (ko K G) us [#[[],.call Fa.name ts 1],#[[],.wait none 2],#[[],.back (.num fr)]],?_,?_]
   . show#[cH,λe0 k=>?_];have F:=F.new (o:=.lst []) k; generalize upd H8 e0 _=B2 at F ⊢;show#[5,ol,35,aE.of F.2.2.2.2.2.2.2.2.2.2.1,13,gl,5,.inl #[aE.of F.2.2.2.1,λtg k=>?_]];have F:=F.new (o:=.tup gu) k; generalize upd B2 tg _=B3 at F ⊢;show#[gF,λca k=>?_];have F:=F.new (o:=.tup [V.str "call",V.str Fa.name,V.ref tg,V.int 1]) k; generalize upd B3 ca _=B4 at F ⊢;show#[bH,λs0 k=>?_];have F:=F.new (o:=.tup [V.ref e0,V.ref ca]) k; generalize upd B4 s0 _=B5 at F ⊢;show#[cH,λe1 k=>?_];have F:=F.new (o:=.lst []) k; generalize upd B5 e1 _=B6 at F ⊢;show#[dY,λwa k=>?_];have F:=F.new (o:=.tup [V.str "wait",V.non,V.int 2]) k; generalize upd B6 wa _=B7 at F ⊢;show#[bH,λs1 k=>?_];have F:=F.new (o:=.tup [V.ref e1,V.ref wa]) k; generalize upd B7 s1 _=B8 at F ⊢;show#[cH,λe2 k=>?_];have F:=F.new (o:=.lst []) k; generalize upd B8 e2 _=B9 at F ⊢;show#[5,bH,λnf k=>?_];have F:=F.new (o:=.tup [V.str "num",V.int (fr:Nat)]) k; generalize upd B9 nf _=B10 at F ⊢;show#[bH,λba k=>?_];have F:=F.new (o:=.tup [V.str "back",V.ref nf]) k; generalize upd B10 ba _=B11 at F ⊢;show#[bH,λs2 k=>?_];have F:=F.new (o:=.tup [V.ref e2,V.ref ba]) k; generalize upd B11 s2 _=B12 at F ⊢;show#[dY,λsp k=>?_];have F:=F.new (o:=.lst [V.ref s0,V.ref s1,V.ref s2]) k; generalize upd B12 sp _=B13 at F ⊢;show#[sp,5,F.1,F.2.1,#[s0,e0,[],↥ca,rfl,aG.of F.2.2.2.2.2.2.2.2.2.1,aE.of F.2.2.2.2.2.2.2.2.2.2.2.2.1,trivial,ca,5,aG.of F.2.2.2.2.2.2.2.2.2.2.1,tg,gu,rfl,aG.of F.2.2.2.2.2.2.2.2.2.2.2.1,(Rk2.Ps.imp (λ_ _ z=>z*>F.1) hts)],#[s1,e1,[],↥wa,rfl,aG.of F.2.2.2.2.2.2.1,aE.of F.2.2.2.2.2.2.2.2.1,trivial,wa,5,aG.of F.2.2.2.2.2.2.2.1,rfl],#[s2,e2,[],↥ba,rfl,aG.of F.2.2.1,aE.of F.2.2.2.2.2.1,trivial,ba,5,aG.of F.2.2.2.1,↥nf,rfl,nf,rfl,F.2.2.2.2.1],trivial]
   rintro σ' H9 ⟨sp,us,rfl,sn,e_sp,hsp⟩;have F:=F.mono sn; have A0:=A0.mono F.1; have A1:=A1.mono F.1; have A2:=A2.mono F.1; have hts:=Rk2.Ps.imp (λ_ _ z=>z*>F.1) hts; have g0:=g0*>F.1; have g1:=g1*>F.1; have g2:=g2*>F.1; have g3:=g3*>F.1; have F:=F.re; have F:=F.add e_sp
   show#[λσ' G=>∃(co:L6),σ'=[⇑↥a,⇑↥cl,⇑↥ol,⇑(.int (un:Int)),⇑↥wl,⇑↥pl,v6,v7,⇑↥nd,⇑↥bl,⇑↥ar,⇑↥gl,⇑↥ma,⇑(.int (fr:Nat)),⇑↥sp,⇑↥co,none,none,none,none]/\aB H9 G/\im K G ↥co [(Fa.name,[#[[],.back (.num 1)]]),(Fb.name,[#[[],.back (.num 2)]]),(Fc.name,[#[[],.call Fa.name ts 1],#[[],.wait none 2],#[[],.back (.num fr)]])],?_,?_]
   . show#[5,ol,35,aE.of F.2.2.2.2.2.2.2.2.2.2.1,rfl,cH,λea k=>?_];have F:=F.new (o:=.lst []) k; generalize upd H9 ea _=B2 at F ⊢;show#[bH,λna k=>?_];have F:=F.new (o:=.tup [V.str "num",V.int 1]) k; generalize upd B2 na _=B3 at F ⊢;show#[bH,λba k=>?_];have F:=F.new (o:=.tup [V.str "back",V.ref na]) k; generalize upd B3 ba _=B4 at F ⊢;show#[bH,λsa k=>?_];have F:=F.new (o:=.tup [V.ref ea,V.ref ba]) k; generalize upd B4 sa _=B5 at F ⊢;show#[eh,λla k=>?_];have F:=F.new (o:=.lst [V.ref sa]) k; generalize upd B5 la _=B6 at F ⊢;show#[bH,λka k=>?_];have F:=F.new (o:=.tup [V.str Fa.name,V.ref la]) k; generalize upd B6 ka _=B7 at F ⊢;show#[5,ol,35,aE.of F.2.2.2.2.2.2.2.2.2.2.2.2.2.2.2.2.1,rfl,cH,λeb k=>?_];have F:=F.new (o:=.lst []) k; generalize upd B7 eb _=B8 at F ⊢;show#[bH,λnb k=>?_];have F:=F.new (o:=.tup [V.str "num",V.int 2]) k; generalize upd B8 nb _=B9 at F ⊢;show#[bH,λbb k=>?_];have F:=F.new (o:=.tup [V.str "back",V.ref nb]) k; generalize upd B9 bb _=B10 at F ⊢;show#[bH,λsb k=>?_];have F:=F.new (o:=.tup [V.ref eb,V.ref bb]) k; generalize upd B10 sb _=B11 at F ⊢;show#[eh,λlb k=>?_];have F:=F.new (o:=.lst [V.ref sb]) k; generalize upd B11 lb _=B12 at F ⊢;show#[bH,λkb k=>?_];have F:=F.new (o:=.tup [V.str Fb.name,V.ref lb]) k; generalize upd B12 kb _=B13 at F ⊢;show#[5,ol,35,aE.of F.2.2.2.2.2.2.2.2.2.2.2.2.2.2.2.2.2.2.2.2.2.2.1,13,bH,λkc k=>?_];have F:=F.new (o:=.tup [V.str Fc.name,V.ref sp]) k; generalize upd B13 kc _=B14 at F ⊢;show#[dY,λco k=>?_];have F:=F.new (o:=.lst [V.ref ka,V.ref kb,V.ref kc]) k; generalize upd B14 co _=B15 at F ⊢;show#[co,rfl,F.1,co,5,aE.of F.2.1,#[ka,la,5,aG.of F.2.2.2.2.2.2.2.2.2.1,aE.of F.2.2.2.2.2.2.2.2.2.2.1,#[sa,ea,[],↥ba,rfl,aG.of F.2.2.2.2.2.2.2.2.2.2.2.1,aE.of F.2.2.2.2.2.2.2.2.2.2.2.2.2.2.1,trivial,ba,5,aG.of F.2.2.2.2.2.2.2.2.2.2.2.2.1,↥na,rfl,na,rfl,F.2.2.2.2.2.2.2.2.2.2.2.2.2.1],trivial],#[kb,lb,5,aG.of F.2.2.2.1,aE.of F.2.2.2.2.1,#[sb,eb,[],↥bb,rfl,aG.of F.2.2.2.2.2.1,aE.of F.2.2.2.2.2.2.2.2.1,trivial,bb,5,aG.of F.2.2.2.2.2.2.1,↥nb,rfl,nb,rfl,F.2.2.2.2.2.2.2.1],trivial],#[kc,sp,us,rfl,aG.of F.2.2.1,aE.of F.2.2.2.2.2.2.2.2.2.2.2.2.2.2.2.1,(Rk2.Ps.imp (λ_ _ z=>z*>F.1) hsp)],trivial]
   rintro σ' H10 ⟨co,rfl,sn,hco⟩;have F:=F.mono sn; have A0:=A0.mono F.1; have A1:=A1.mono F.1; have A2:=A2.mono F.1; have hts:=Rk2.Ps.imp (λ_ _ z=>z*>F.1) hts; have g0:=g0*>F.1; have g1:=g1*>F.1; have g2:=g2*>F.1; have g3:=g3*>F.1; have hsp:=Rk2.Ps.imp (λ_ _ z=>z*>F.1) hsp; have F:=F.re
   show#[λσ' G=>∃(tb:L6),σ'=[⇑↥a,⇑↥cl,⇑↥ol,⇑(.int (un:Int)),⇑↥wl,⇑↥pl,v6,v7,⇑↥nd,⇑↥bl,⇑↥ar,⇑↥gl,⇑↥ma,⇑(.int (fr:Nat)),⇑↥sp,⇑↥co,⇑↥tb,none,none,none]/\aB H10 G/\ip K G ↥tb [(Fa.name,[m3]),(Fb.name,[m1]),(Fc.name,[m0,m1,m2])],?_,?_]
   . show#[5,ol,35,aE.of F.2.2.2.2.2.2.2.2.2.2.1,53,ma,5,aE.of F.2.2.1,λxa k=>?_];rw[show dH [v0,v1,v2,v3] (some 3) none=[v3] from rfl];have F:=F.new (o:=.lst [v3]) k; generalize upd H10 xa _=B2 at F ⊢;show#[bH,λya k=>?_];have F:=F.new (o:=.tup [V.str Fa.name,V.ref xa]) k; generalize upd B2 ya _=B3 at F ⊢;show#[5,ol,35,aE.of F.2.2.2.2.2.2.2.2.2.2.2.2.1,213,ma,5,aE.of F.2.2.2.2.1,λxb k=>?_];rw[show dH [v0,v1,v2,v3] (some 1) (some 2)=[v1] from rfl];have F:=F.new (o:=.lst [v1]) k; generalize upd B3 xb _=B4 at F ⊢;show#[bH,λyb k=>?_];have F:=F.new (o:=.tup [V.str Fb.name,V.ref xb]) k; generalize upd B4 yb _=B5 at F ⊢;show#[5,ol,35,aE.of F.2.2.2.2.2.2.2.2.2.2.2.2.2.2.1,53,ma,5,aE.of F.2.2.2.2.2.2.1,λxc k=>?_];rw[show dH [v0,v1,v2,v3] none (some 3)=[v0,v1,v2] from rfl];have F:=F.new (o:=.lst [v0,v1,v2]) k; generalize upd B5 xc _=B6 at F ⊢;show#[bH,λyc k=>?_];have F:=F.new (o:=.tup [V.str Fc.name,V.ref xc]) k; generalize upd B6 yc _=B7 at F ⊢;show#[dY,λtb k=>?_];have F:=F.new (o:=.lst [V.ref ya,V.ref yb,V.ref yc]) k; generalize upd B7 tb _=B8 at F ⊢;show#[tb,rfl,F.1,tb,5,aE.of F.2.1,#[ya,xa,5,aG.of F.2.2.2.2.2.2.1,aE.of F.2.2.2.2.2.2.2.1,(g3*>F.1),trivial],#[yb,xb,5,aG.of F.2.2.2.2.1,aE.of F.2.2.2.2.2.1,(g1*>F.1),trivial],#[yc,xc,5,aG.of F.2.2.1,aE.of F.2.2.2.1,(g0*>F.1),(g1*>F.1),(g2*>F.1),trivial],trivial]
   rintro σ' H11 ⟨tb,rfl,sn,htb⟩;have F:=F.mono sn; have A0:=A0.mono F.1; have A1:=A1.mono F.1; have A2:=A2.mono F.1; have hts:=Rk2.Ps.imp (λ_ _ z=>z*>F.1) hts; have g0:=g0*>F.1; have g1:=g1*>F.1; have g2:=g2*>F.1; have g3:=g3*>F.1; have hsp:=Rk2.Ps.imp (λ_ _ z=>z*>F.1) hsp; have hco:=hco*>F.1; have F:=F.re
   show#[341,λx dx hx hdx ne=>?_];have sE:=cw ((aB.new (o:=.own x) hdx)\(aB.new (o:=.ins t.bF dx []) (by rw[aM (Ne.symm ne)]; exact hx))) hx;have hpr:aE K H11 pl ([Fa,Fb,Fc].map λf=>V.ref f.fa):=aE.of F.2.2.2.2.2.2.2.2.1;have hfn:∀f∈[Fa,Fb,Fc],F2.FnAt K H11 f/\FnOk f:=λf hf=>by
     simp only[Hh,ID,or_false] at hf;rcases hf with rfl|rfl|rfl
     . show#[A0.f,A0.ok]
     . show#[A1.f,A1.ok]
     . show#[A2.f,A2.ok]
   have nd3:([Fa.name,Fb.name,Fc.name]:List Str).Nodup:=ond;have mv:∀m∈[m0,m1,m2,m3],m.vs.length<=1000/\∀p∈m.vs,p.length<=1000:=λm hm=>by
     have ok:MkOk [Fa,Fb,Fc] m:=by simp only[Hh,ID,or_false] at hm;rcases hm with rfl|rfl|rfl|rfl <;> assumption
     show#[by rw[ok.p.len]; exact Hu ok.l3 #[],λp hp=>?_];let#[k,hk]:=JU.mp hp;obtain⟨G,hG,-,e,-⟩:=ok.p.at_ k _ p (HU (by rw[<- ok.p.len]; exact(HV.mp hk).1)) hk;rw[e];exact Hu (hfn G hG).2.n1 #[]
   have har:aE K H11 ar (zs.map V.int):=aE.of F.2.2.2.2.1;have hdv:=pV bz;show#[x,dx,pl,ar,↥co,↥tb,[Fa,Fb,Fc],Fc,4,zs.map V.int,rfl,aH,sE.seq hpr,0x6,(show(3:Nat)<=12 by decide),(λf hf=>F2.FnAt.mono sE (hfn f hf).1),nd3,rfl,hco*>sE,nd3,(show(3:Nat)<=100 by decide),(λc hc=>?_),htb*>sE,nd3,(show(3:Nat)<=100 by decide),(λc hc=>?_),sE.seq har,(by rw[HS]; lia),λw wt fa fdx fbx Hb H12 ew sb hC D=>#[rfl,?_]]
   . simp only[Hh,ID,or_false] at hc;rcases hc with rfl|rfl|rfl
     . show#[(show(1:Nat)<=1000 by decide),λs hs=>by simp only[Hh,ID,or_false] at hs;rcases hs with rfl;exact Hw _]
     . show#[(show(1:Nat)<=1000 by decide),λs hs=>by simp only[Hh,ID,or_false] at hs;rcases hs with rfl;exact Hw _]
     . show#[(show(3:Nat)<=1000 by decide),λs hs=>by simp only[Hh,ID,or_false] at hs;rcases hs with rfl|rfl|rfl <;> exact Hw _]
   . simp only[Hh,ID,or_false] at hc;rcases hc with rfl|rfl|rfl
     . show#[(show(1:Nat)<=1000 by decide),λm hm=>by cases IC.mp hm; exact mv m3 0x6]
     . show#[(show(1:Nat)<=1000 by decide),λm hm=>by cases IC.mp hm; exact mv m1 0x6]
     . show#[(show(3:Nat)<=1000 by decide),λm hm=>by simp only[Hh,ID,or_false] at hm;rcases hm with rfl|rfl|rfl <;> exact mv _ 0x6]
   subst ew;have sH:=sE\sb;have F:=F.mono sH;have N:NmD K Hb nd al _ [Fa,Fb,Fc] _:=#[F.2.2.2.2.2.2.2.1,BV nd3 (λs hs=>one s hs) (A0.mono F.1).w (A1.mono F.1).w (A2.mono F.1).w,by rw[cZ,He rfl],aE.of F.2.2.2.2.2.2.1,by simp,by have l0:(F2.nms Fa).length<=20:=(A0.mono F.1).ok.n1; have l1:(F2.nms Fb).length<=20:=(A1.mono F.1).ok.n1; have l2:(F2.nms Fc).length<=20:=(A2.mono F.1).ok.n1; simp; lia]
   have hfk:∀f∈[Fa,Fb,Fc],FnOk f:=λf hf=>(hfn f hf).2;have mM:∀cs ms ws kn,MlA K Hb ⟨Fa.name,Fc.name,[Fa,Fb,Fc],m0,m1,m2,m3,ts,fr,cs,ms,ws,kn⟩ ma:=λ_ _ _ _=>#[v0,v1,v2,v3,aE.of F.2.2.1,(g0*>F.1),(g1*>F.1),(g2*>F.1),(g3*>F.1)]
   have xcl:aE K Hb _ _:=aE.of F.2.2.2.2.2.2.2.2.2.2.2.1;have xbl:aE K Hb _ _:=aE.of F.2.2.2.2.2.1;have xma:aE K Hb _ _:=aE.of F.2.2.1;have xar:aE K Hb _ _:=aE.of F.2.2.2.2.1;have xgl:aE K Hb _ _:=aE.of F.2.2.2.1;have xts:Rk2.Ps (Rk2.RAt Hb) gu ts:=(Rk2.Ps.imp (λ_ _ z=>z*>F.1) hts)
   have x0:dE K Hb m0 v0:=(g0*>F.1)
   obtain⟨b18,hb18⟩:∃b,am (bs.map V.int) (c18%8)=⇑(.int b):=by let#[b,_,h2,_]:=Bg.bx_at hbs c18;rw[HS,hbs.1] at h2;show#[b,h2]
   obtain⟨b20,hb20⟩:∃b,am (bs.map V.int) (c20%8)=⇑(.int b):=by let#[b,_,h2,_]:=Bg.bx_at hbs c20;rw[HS,hbs.1] at h2;show#[b,h2]
   clear F A0 A1 A2 g0 g1 g2 g3 hco htb hsp hpr har hfn mv sE sb sH hx hdx hnd;intro d hd;have hdb:=hC.b.free hd;show#[5,ar,5,.inl ((hC.b\(aB.new hd)).seq xar),5,by simp,(by rw[HS]; lia),(let Jv4:Nat->St->Hp->Prop:=λi σ G=>G=upd H12 d (.dK (bX ((zs.map V.int).take i)))/\∃v,σ=[⇑↥a,⇑↥cl,⇑↥ol,⇑(.int (un:Int)),⇑↥wl,⇑↥pl,v,v7,⇑↥nd,⇑↥bl,⇑↥ar,⇑↥gl,⇑↥ma,⇑(.int (fr:Nat)),⇑↥sp,⇑↥co,⇑↥tb,⇑↥w.a,⇑↥d,none]; eR (lo:=0) (n:=(zs.map V.int).length) Jv4 #[13] ?_ ?_)]
   . rintro i σ G hi ⟨rfl,v,rfl⟩;have s2:=aB.new (o:=.dK (bX ((zs.map V.int).take i))) hd;obtain⟨y,hy⟩:∃y,(zs.map V.int)[i]?=⇑y:=#[_,HU hi]
     have e9:=(nz (ys:=zs.map V.int) (λy hy=>by let#[z,hz,rfl]:=IJ.mp hy; show#[z,rfl,bz z hz]) i ∅).2;rw[HS] at hi;rw[Io];show#[21,ar,35,(hC.b\s2).seq xar,bp hy,21,d,5,cU.k (k:=(Sum.inl (i:Int):aF)) aH (Rk2.lt_line' ∅),by rw[eX,pZ hy],5]
   rintro σ G ⟨rfl,v,rfl⟩;rw[Ic (HY _)];generalize bX (zs.map V.int)=k0 at hC hdv ⊢;have dv:=hdv.1;have ln:=hdv.2;obtain⟨Hc,W⟩:∃Hc,Wm t Hb Hc (upd H12 d (.dK k0)) w wt [((⟨fa,fdx,fbx,Fc.name,0,k0,0⟩:Fm),m0,d)] .non []:=#[_,Own.grow hC (aB.new hd),Wk.gr_same hC.b,λy hy=>by cases IC.mp hy; exact Wk.gr_new hd aH,λy hy=>by cases IC.mp hy; exact hdb,by simp]
   generalize upd H12 d (.dK k0)=H13 at W ⊢;clear hC hd;have b13:=W.b;show#[21,ma,35,b13.seq xma,13,bH,λp1 ni1=>#[eh,λp2 ni2=>?_]];have j1:=aB.new (o:=.tup [v0,↥d]) ni1;have q1:=aG.of (K:=K) (aH (H:=H13) (a:=p1) (o:=.tup [v0,↥d]));generalize upd H13 p1 (.tup [v0,↥d])=G1 at j1 q1 ni2 ⊢;have j2:=aB.new (o:=.lst [↥p1]) ni2;have q2:=aE.of (K:=K) (aH (H:=G1) (a:=p2) (o:=.lst [↥p1]));generalize upd G1 p2 (.lst [↥p1])=G2 at j2 q2  ⊢;have j:=j1\j2;have WG:=W.keep j;have kG:=b13\j;show#[339,w,wt,[],[Fa,Fb,Fc],8,[((#[fa,fdx,fbx,Fc.name,(0),k0,(0)]:Fm),m0,d)],nd,al,p2,4,[↥p1],1+fr,rfl,#[8,WG.c,D.mono WG.s,by simp,by simp],oG (f:=(#[fa,fdx,fbx,Fc.name,(0),k0,(0)]:Fm)) hfk #[[m0,m1,m2],by simp,rfl] ok0 dv (by show k0.length<=_; lia) rfl,N.mono kG,q2,#[#[p1,v0,rfl,j2<*q1,x0*>kG,WG.c.b _ _ (WG.at_ _ Hj)],trivial],λH14 s14=>#[5,iN ?_]];have W14:=WG.keep s14;clear j1 j2 j q1 q2 WG kG s14 W b13 ni1 ni2;have b14:=W14.b;show#[21,ma,35,b14.seq xma,13,bH,λp1 ni1=>#[eh,λp2 ni2=>?_]];have j1:=aB.new (o:=.tup [v0,↥d]) ni1;have q1:=aG.of (K:=K) (aH (H:=H14) (a:=p1) (o:=.tup [v0,↥d]));generalize upd H14 p1 (.tup [v0,↥d])=G1 at j1 q1 ni2 ⊢;have j2:=aB.new (o:=.lst [↥p1]) ni2;have q2:=aE.of (K:=K) (aH (H:=G1) (a:=p2) (o:=.lst [↥p1]));generalize upd G1 p2 (.lst [↥p1])=G2 at j2 q2  ⊢;have j:=j1\j2;have kG:=b14\j;have W15:=W14.grow j;have sX:aB Hb (Wk.gr Hb H14 G2):=Wk.gr_same b14;have q1':aG K (Wk.gr Hb H14 G2) p1 [v0,↥d]:=qz ni1 (j2<*q1);have q2':aE K (Wk.gr Hb H14 G2) p2 [↥p1]:=qQ (j1.free ni2) q2;generalize Wk.gr Hb H14 G2=Hx at W15 sX q1' q2';show#[5,cl,35,kG.seq xcl,hc17,21,cl,35,kG.seq xcl,hc18,19,(show(0:Int)<8 by decide),bl,35,kG.seq xbl,hb18,5,cl,35,kG.seq xcl,hc19,c19,rfl,λz z0 z1=>?_];show#[w,wt,[],.non,Hx,_,[((#[fa,fdx,fbx,Fc.name,(0),k0,(0)]:Fm),m0,d)],[Fa,Fb,Fc],4,p2,[↥p1],c17,b18,z,rfl,W15,D.mono sX,Hw _,oG (f:=(#[fa,fdx,fbx,Fc.name,(0),k0,(0)]:Fm)) hfk #[[m0,m1,m2],by simp,rfl] ok0 dv (by show k0.length<=_; lia) rfl,q2',#[#[p1,v0,rfl,q1',x0*>sX],trivial],by simp,λA0 y0 B0 Hb16 H16 eL W16=>#[5,iN ?_]];clear W15 q1' q2' j1 j2 j q1 q2 kG W14 b14 ni1 ni2;obtain⟨k1,W16,dv1,ln1⟩:∃k1,Wm t Hx Hb16 H16 w wt [((⟨fa,fdx,fbx,Fc.name,0,k1,0⟩:Fm),m0,d)] .non []/\Rk2.DV k1/\k1.length<=100:=by
     cases A0 with
     | nil =>
       cases eL;show#[_,W16,Rk2.DV_put dv z0 z1,?_];have:=Rk2.putK_len k0 (Sum.inl b18:aF) (.int z);exact Hu this ∅
     | cons y A0 =>
       have:=Hr List.length eL;simp at this
   have k16:=sX\W16.b;show#[341,cl,35,k16.seq xcl,hc20,19,(show(0:Int)<8 by decide),bl,35,k16.seq xbl,hb20,5,cl,35,k16.seq xcl,hc21,5,cl,35,k16.seq xcl,hc22,c22,rfl,λz2 z20 z21=>#[(by show 5<=sizeLine; decide),λmo ni=>?_]];have j1:=aB.new (o:=.lst [.int (fr:Nat),↥gl,.int b20,.int c21,.int z2]) ni;have q1:=aE.of (K:=K) (aH (H:=H16) (a:=mo) (o:=.lst [.int (fr:Nat),↥gl,.int b20,.int c21,.int z2]));generalize upd H16 mo (.lst [.int (fr:Nat),↥gl,.int b20,.int c21,.int z2])=G1 at j1 q1  ⊢;have W17:=W16.grow j1;have sY:aB Hx (Wk.gr Hx H16 G1):=Wk.gr_same W16.b;have q1:aE K (Wk.gr Hx H16 G1) mo _:=qQ ni q1;have sZ:=sX\sY;generalize Wk.gr Hx H16 G1=Hy at W17 sY q1 sZ;have lgu2:ts.length<=20:=by lia
   show#[1365,w,wt,Hy,4,#[Fa.name,Fc.name,[Fa,Fb,Fc],m0,m1,m2,m3,ts,fr,16],nd,al,ma,d,mo,gl,gu,b20,c21,z2,rfl,W17,D.mono sZ,N.mono sZ,?_,q1,sZ.seq xgl,Rk2.Ps.imp (λ_ _ z=>z*>sZ) xts,z20,z21,#[hfk,ok0,ok1,ok2,ok3,lgu2,tsk,far1,#[_,Hv _ (Hv _ Hj),15],#[_,Hj,rfl],#[[m0,m1,m2],by simp,15],#[[m3],by simp,rfl],15,dv1,ln1],q];let#[u0,u1,u2,u3,h0,h1,h2,h3,h4]:=mM _ _ _ _;show#[u0,u1,u2,u3,sZ.seq h0,h1*>sZ,h2*>sZ,h3*>sZ,h4*>sZ]
end
end K38
namespace K38
open PySem L2
structure Fv where
 (oc kV dc pm cd ct:Value)
 (od an:Option Addr)
 sl:Array (Option Value)
noncomputable abbrev Fv.fn (v:Fv) (n q:Str) (s:Stmt):=W.fnOf n q (cz s) (aP s) (aS s) .none v.kV v.dc v.pm v.an v.cd v.ct
abbrev FL (K:L7) (f:L6) (v:Fv) (n q:Str) (s:Stmt):Prop:=K.lookup f=⇑#[v.oc,v.od,.func (v.fn n q s),v.sl]/\W.codeIn K v.cd q=true/\W.keepIn K ↥f=true
def fl_mk {K:L7} {f:L6} {n q:Str} {s:Stmt} {oc kV dc pm cd ct:K'} {od an:Hl L6} {sl:Array (Hl K')} (l:K.lookup f=⇑#[oc,od,.func (W.fnOf n q (cz s) (aP s) (aS s) .none kV dc pm an cd ct),sl]) (c:W.codeIn K cd q=true) (k:W.keepIn K ↥f=true):FL K f #[oc,kV,dc,pm,cd,ct,od,an,sl] n q s:=#[l,c,k]
set_option maxHeartbeats 4000000 in
def txt_mk {K:L7} {h:Heap} {mg:Str->Hl K'} (X:K.In h) (G:h.Ns mainGlobals mg)
   {C_Flows:L6} (aC_Flows:W.nsIn K mainGlobals "Flows"=⇑⇑↥C_Flows) (pg_Flows:W.plainGet K C_Flows Str.empty=true) (hd_Flows:W.hasDictIn K C_Flows=true) (po_Flows:W.plainOver K C_Flows=true) (sa_Flows:W.findIn K ↥C_Flows "__setattr__"=⇑⇑(.builtin "object.__setattr__")) (mk_Flows:W.makesIn K C_Flows=true) (kc_Flows:W.keepIn K ↥C_Flows=true)
   (ja:W.findIn K ↥C_Flows "last"=⇑none)
   (jb:W.findIn K ↥C_Flows "number_of"=⇑none)
   (jZ:W.findIn K ↥C_Flows "folded_of"=⇑none)
   (jc:W.findIn K ↥C_Flows "params_of"=⇑none)
   (jd:W.findIn K ↥C_Flows "rows_of"=⇑none)
   (ig:W.findIn K ↥C_Flows "names_in"=⇑none)
   (je:W.findIn K ↥C_Flows "ways_in"=⇑none)
   {C_Walker:L6} (aC_Walker:W.nsIn K mainGlobals "Walker"=⇑⇑↥C_Walker) (pg_Walker:W.plainGet K C_Walker Str.empty=true) (hd_Walker:W.hasDictIn K C_Walker=true) (po_Walker:W.plainOver K C_Walker=true) (sa_Walker:W.findIn K ↥C_Walker "__setattr__"=⇑⇑(.builtin "object.__setattr__")) (mk_Walker:W.makesIn K C_Walker=true) (kc_Walker:W.keepIn K ↥C_Walker=true)
   {C_CodeWalker:L6} (aC_CodeWalker:W.nsIn K mainGlobals "CodeWalker"=⇑⇑↥C_CodeWalker) (pg_CodeWalker:W.plainGet K C_CodeWalker Str.empty=true) (hd_CodeWalker:W.hasDictIn K C_CodeWalker=true) (po_CodeWalker:W.plainOver K C_CodeWalker=true) (sa_CodeWalker:W.findIn K ↥C_CodeWalker "__setattr__"=⇑⇑(.builtin "object.__setattr__")) (mk_CodeWalker:W.makesIn K C_CodeWalker=true) (kc_CodeWalker:W.keepIn K ↥C_CodeWalker=true)
   (ic:W.findIn K ↥C_CodeWalker "flows"=⇑none)
   (dy:W.findIn K ↥C_CodeWalker "stack"=⇑none)
   (ie:W.findIn K ↥C_CodeWalker "outcome"=⇑none)
   (lX:W.findIn K ↥C_CodeWalker "sendings"=⇑none)
   (lU:W.findIn K ↥C_CodeWalker "contents"=⇑none)
   (lV:W.findIn K ↥C_CodeWalker "records"=⇑none)
   (jY:W.findIn K ↥C_CodeWalker "spots_of"=⇑none)
   (jX:W.findIn K ↥C_CodeWalker "marks_of"=⇑none)
   (fK:W.findIn K ↥C_CodeWalker "waiting"=⇑none)
   {C_CodeFrame:L6} (aC_CodeFrame:W.nsIn K mainGlobals "CodeFrame"=⇑⇑↥C_CodeFrame) (pg_CodeFrame:W.plainGet K C_CodeFrame Str.empty=true) (hd_CodeFrame:W.hasDictIn K C_CodeFrame=true) (po_CodeFrame:W.plainOver K C_CodeFrame=true) (sa_CodeFrame:W.findIn K ↥C_CodeFrame "__setattr__"=⇑⇑(.builtin "object.__setattr__")) (mk_CodeFrame:W.makesIn K C_CodeFrame=true) (kc_CodeFrame:W.keepIn K ↥C_CodeFrame=true)
   (ib:W.findIn K ↥C_CodeFrame "function"=⇑none)
   (gV:W.findIn K ↥C_CodeFrame "spot"=⇑none)
   (gs:W.findIn K ↥C_CodeFrame "boxes"=⇑none)
   (eQ:W.findIn K ↥C_CodeFrame "first"=⇑none)
   {X_gE NN_gE:L6} {nm_gE qq_gE:Str} {bs_gE bm_gE:List K'} {sn_gE:List Str} {sub_gE:List K'} {ab_gE:Bool} {col_gE:Hl Bool} {dd_gE:Hl L6} {k0_gE k1_gE k2_gE k3_gE k5_gE:Hl K'}
   (xa_gE:W.nsIn K mainGlobals "GlassError"=⇑⇑↥X_gE) (xl_gE:K.lookup X_gE=⇑(excClassObj nm_gE qq_gE X_gE NN_gE bs_gE bm_gE true sn_gE sub_gE ab_gE col_gE dd_gE k0_gE k1_gE k2_gE k3_gE k5_gE "ValueError.__new__")) (xv_gE:Ex.veTail bm_gE=true) (xk_gE:W.keepIn K ↥X_gE=true) (xs_gE:W.findIn K ↥X_gE "__setattr__"=⇑⇑(.builtin "object.__setattr__")) (xg_gE:W.findIn K ↥X_gE "__getattribute__"=⇑⇑(.builtin "BaseException.__getattribute__")) (xt_gE:W.findIn K ↥X_gE "__getattr__"=⇑none) (xc_gE:W.findIn K ↥X_gE "__class__"=⇑⇑(.builtin "object.__class__"))
   {X_nN NN_nN:L6} {nm_nN qq_nN:Str} {bs_nN bm_nN:List K'} {sn_nN:List Str} {sub_nN:List K'} {ab_nN:Bool} {col_nN:Hl Bool} {dd_nN:Hl L6} {k0_nN k1_nN k2_nN k3_nN k5_nN:Hl K'}
   (xa_nN:W.nsIn K mainGlobals "NoName"=⇑⇑↥X_nN) (xl_nN:K.lookup X_nN=⇑(excClassObj nm_nN qq_nN X_nN NN_nN bs_nN bm_nN true sn_nN sub_nN ab_nN col_nN dd_nN k0_nN k1_nN k2_nN k3_nN k5_nN "ValueError.__new__")) (xv_nN:Ex.veTail bm_nN=true) (xk_nN:W.keepIn K ↥X_nN=true) (xs_nN:W.findIn K ↥X_nN "__setattr__"=⇑⇑(.builtin "object.__setattr__")) (xg_nN:W.findIn K ↥X_nN "__getattribute__"=⇑⇑(.builtin "BaseException.__getattribute__")) (xt_nN:W.findIn K ↥X_nN "__getattr__"=⇑none) (xc_nN:W.findIn K ↥X_nN "__class__"=⇑⇑(.builtin "object.__class__"))
   {X_Ended NN_Ended:L6} {nm_Ended qq_Ended:Str} {bs_Ended bm_Ended:List K'} {sn_Ended:List Str} {sub_Ended:List K'} {ab_Ended:Bool} {col_Ended:Hl Bool} {dd_Ended:Hl L6} {k0_Ended k1_Ended k2_Ended k3_Ended k5_Ended:Hl K'}
   (xa_Ended:W.nsIn K mainGlobals "Ended"=⇑⇑↥X_Ended) (xl_Ended:K.lookup X_Ended=⇑(excClassObj nm_Ended qq_Ended X_Ended NN_Ended bs_Ended bm_Ended true sn_Ended sub_Ended ab_Ended col_Ended dd_Ended k0_Ended k1_Ended k2_Ended k3_Ended k5_Ended "ValueError.__new__")) (xv_Ended:Ex.veTail bm_Ended=true) (xk_Ended:W.keepIn K ↥X_Ended=true) (xs_Ended:W.findIn K ↥X_Ended "__setattr__"=⇑⇑(.builtin "object.__setattr__")) (xg_Ended:W.findIn K ↥X_Ended "__getattribute__"=⇑⇑(.builtin "BaseException.__getattribute__")) (xt_Ended:W.findIn K ↥X_Ended "__getattr__"=⇑none) (xc_Ended:W.findIn K ↥X_Ended "__class__"=⇑⇑(.builtin "object.__class__"))
   (sg0:W.specialIn K (.builtin "object.__class__") "__get__"=⇑⇑(.builtin "getset_descriptor.__get__")) (tkX0:W.takesIn K (.builtin "object.__class__")=⇑true)
   (i0_nN:W.findIn K ↥X_nN "__init__"=⇑⇑(.builtin "ValueError.__init__"))
   (e_nN:W.mroIn K X_nN ↥X_gE=⇑true)
   (kk_NoName_nN:W.kitOne K ↥X_nN ↥X_nN=⇑true)
   (kk_NoName_Ended:W.kitOne K ↥X_nN ↥X_Ended=⇑false)
   (kv_nN:W.kitOne K ↥X_nN (.type "ValueError")=⇑true)
   (i0_Ended:W.findIn K ↥X_Ended "__init__"=⇑⇑(.builtin "ValueError.__init__"))
   (e_Ended:W.mroIn K X_Ended ↥X_gE=⇑true)
   (kk_Ended_nN:W.kitOne K ↥X_Ended ↥X_nN=⇑false)
   (kk_Ended_Ended:W.kitOne K ↥X_Ended ↥X_Ended=⇑true)
   (kv_Ended:W.kitOne K ↥X_Ended (.type "ValueError")=⇑true)
   {f0:L6} {y0:Fv} (a0:W.nsIn K mainGlobals "names_of"=⇑⇑↥f0) (l0:FL K f0 y0 "names_of" "names_of" jH)
   {f1:L6} {y1:Fv} (a1:W.nsIn K mainGlobals "reads"=⇑⇑↥f1) (l1:FL K f1 y1 "reads" "reads" lZ)
   {f2:L6} {y2:Fv} (a2:W.nsIn K mainGlobals "gives"=⇑⇑↥f2) (l2:FL K f2 y2 "gives" "gives" lh)
   {f3:L6} {y3:Fv} (a3:W.nsIn K mainGlobals "atoms_of"=⇑⇑↥f3) (l3:FL K f3 y3 "atoms_of" "atoms_of" mJ)
   {f4:L6} {y4:Fv} (a4:W.nsIn K mainGlobals "each_once"=⇑⇑↥f4) (l4:FL K f4 y4 "each_once" "each_once" m8)
   {f5:L6} {y5:Fv} (a5:W.nsIn K mainGlobals "ways"=⇑⇑↥f5) (l5:FL K f5 y5 "ways" "ways" i4)
   {f6:L6} {y6:Fv} (a6:W.nsIn K mainGlobals "begins_of"=⇑⇑↥f6) (l6:FL K f6 y6 "begins_of" "begins_of" jq)
   {f7:L6} {y7:Fv} (a7:W.nsIn K mainGlobals "firsts_behind"=⇑⇑↥f7) (l7:FL K f7 y7 "firsts_behind" "firsts_behind" jG)
   {f8:L6} {y8:Fv} (a8:W.findIn K ↥C_Flows "__init__"=⇑⇑↥f8) (i8:W.isFn K ↥f8=true) (l8:FL K f8 y8 "__init__" "Flows.__init__" eV)
   {f9:L6} {y9:Fv} (a9:W.nsIn K mainGlobals "value"=⇑⇑↥f9) (l9:FL K f9 y9 "value" "value" mE)
   {f10:L6} {y10:Fv} (a10:W.nsIn K mainGlobals "worth"=⇑⇑↥f10) (l10:FL K f10 y10 "worth" "worth" nU)
   {f11:L6} {y11:Fv} (a11:W.nsIn K mainGlobals "reckonings_of"=⇑⇑↥f11) (l11:FL K f11 y11 "reckonings_of" "reckonings_of" nJ)
   {f12:L6} {y12:Fv} (a12:W.nsIn K mainGlobals "spots_by_name"=⇑⇑↥f12) (l12:FL K f12 y12 "spots_by_name" "spots_by_name" kW)
   {f13:L6} {y13:Fv} (a13:W.nsIn K mainGlobals "marks_by_name"=⇑⇑↥f13) (l13:FL K f13 y13 "marks_by_name" "marks_by_name" kq)
   {f14:L6} {y14:Fv} (a14:W.findIn K ↥C_CodeFrame "__init__"=⇑⇑↥f14) (i14:W.isFn K ↥f14=true) (l14:FL K f14 y14 "__init__" "CodeFrame.__init__" iF)
   {f15:L6} {y15:Fv} (a15:W.findIn K ↥C_CodeFrame "worths_of"=⇑⇑↥f15) (i15:W.isFn K ↥f15=true) (l15:FL K f15 y15 "worths_of" "CodeFrame.worths_of" mZ)
   {f16:L6} {y16:Fv} (a16:W.findIn K ↥C_CodeFrame "give"=⇑⇑↥f16) (i16:W.isFn K ↥f16=true) (l16:FL K f16 y16 "give" "CodeFrame.give" nE)
   {f17:L6} {y17:Fv} (a17:W.findIn K ↥C_CodeFrame "do_sets"=⇑⇑↥f17) (i17:W.isFn K ↥f17=true) (l17:FL K f17 y17 "do_sets" "CodeFrame.do_sets" kC)
   {f18:L6} {y18:Fv} (a18:W.findIn K ↥C_CodeWalker "ended"=⇑⇑↥f18) (i18:W.isFn K ↥f18=true) (l18:FL K f18 y18 "ended" "Walker.ended" mP)
   {f19:L6} {y19:Fv} (a19:W.findIn K ↥C_CodeWalker "answer"=⇑⇑↥f19) (i19:W.isFn K ↥f19=true) (l19:FL K f19 y19 "answer" "Walker.answer" oE)
   {f20:L6} {y20:Fv} (a20:W.findIn K ↥C_CodeWalker "owner_of"=⇑⇑↥f20) (i20:W.isFn K ↥f20=true) (l20:FL K f20 y20 "owner_of" "CodeWalker.owner_of" nj)
   {f21:L6} {y21:Fv} (a21:W.findIn K ↥C_CodeWalker "spot_of"=⇑⇑↥f21) (i21:W.isFn K ↥f21=true) (l21:FL K f21 y21 "spot_of" "CodeWalker.spot_of" nt)
   {f22:L6} {y22:Fv} (a22:W.findIn K ↥C_CodeWalker "mark_of"=⇑⇑↥f22) (i22:W.isFn K ↥f22=true) (l22:FL K f22 y22 "mark_of" "CodeWalker.mark_of" nY)
   {f23:L6} {y23:Fv} (a23:W.findIn K ↥C_CodeWalker "chain_of"=⇑⇑↥f23) (i23:W.isFn K ↥f23=true) (l23:FL K f23 y23 "chain_of" "CodeWalker.chain_of" mi)
   {f24:L6} {y24:Fv} (a24:W.findIn K ↥C_CodeWalker "shown_at"=⇑⇑↥f24) (i24:W.isFn K ↥f24=true) (l24:FL K f24 y24 "shown_at" "CodeWalker.shown_at" hU)
   {f25:L6} {y25:Fv} (a25:W.findIn K ↥C_CodeWalker "names_at"=⇑⇑↥f25) (i25:W.isFn K ↥f25=true) (l25:FL K f25 y25 "names_at" "Walker.names_at" nS)
   {f26:L6} {y26:Fv} (a26:W.findIn K ↥C_CodeWalker "ask_for_level"=⇑⇑↥f26) (i26:W.isFn K ↥f26=true) (l26:FL K f26 y26 "ask_for_level" "Walker.ask_for_level" nG)
   {f27:L6} {y27:Fv} (a27:W.findIn K ↥C_CodeWalker "ask_for_name"=⇑⇑↥f27) (i27:W.isFn K ↥f27=true) (l27:FL K f27 y27 "ask_for_name" "Walker.ask_for_name" nM)
   {f28:L6} {y28:Fv} (a28:W.findIn K ↥C_CodeWalker "place"=⇑⇑↥f28) (i28:W.isFn K ↥f28=true) (l28:FL K f28 y28 "place" "CodeWalker.place" iA)
   {f29:L6} {y29:Fv} (a29:W.findIn K ↥C_CodeWalker "tell"=⇑⇑↥f29) (i29:W.isFn K ↥f29=true) (l29:FL K f29 y29 "tell" "CodeWalker.tell" nB)
   {f30:L6} {y30:Fv} (a30:W.findIn K ↥C_CodeWalker "told"=⇑⇑↥f30) (i30:W.isFn K ↥f30=true) (l30:FL K f30 y30 "told" "Walker.told" oK)
   {f31:L6} {y31:Fv} (a31:W.findIn K ↥C_CodeWalker "mates"=⇑⇑↥f31) (i31:W.isFn K ↥f31=true) (l31:FL K f31 y31 "mates" "CodeWalker.mates" gL)
   {f32:L6} {y32:Fv} (a32:W.findIn K ↥C_CodeWalker "fill_box"=⇑⇑↥f32) (i32:W.isFn K ↥f32=true) (l32:FL K f32 y32 "fill_box" "CodeWalker.fill_box" mY)
   {f33:L6} {y33:Fv} (a33:W.findIn K ↥C_CodeWalker "frames"=⇑⇑↥f33) (i33:W.isFn K ↥f33=true) (l33:FL K f33 y33 "frames" "Walker.frames" kB)
   {f34:L6} {y34:Fv} (a34:W.findIn K ↥C_CodeWalker "begin"=⇑⇑↥f34) (i34:W.isFn K ↥f34=true) (l34:FL K f34 y34 "begin" "CodeWalker.begin" lj)
   {f35:L6} {y35:Fv} (a35:W.findIn K ↥C_CodeWalker "go_back"=⇑⇑↥f35) (i35:W.isFn K ↥f35=true) (l35:FL K f35 y35 "go_back" "CodeWalker.go_back" kZ)
   {f36:L6} {y36:Fv} (a36:W.findIn K ↥C_CodeWalker "do_act"=⇑⇑↥f36) (i36:W.isFn K ↥f36=true) (l36:FL K f36 y36 "do_act" "CodeWalker.do_act" j7)
   {f37:L6} {y37:Fv} (a37:W.findIn K ↥C_CodeWalker "walk_on"=⇑⇑↥f37) (i37:W.isFn K ↥f37=true) (l37:FL K f37 y37 "walk_on" "CodeWalker.walk_on" gp)
   {f38:L6} {y38:Fv} (a38:W.findIn K ↥C_CodeWalker "step"=⇑⇑↥f38) (i38:W.isFn K ↥f38=true) (l38:FL K f38 y38 "step" "Walker.step" mF)
   (ga39:W.specialIn K ↥C_Walker "__getattribute__"=⇑⇑(.builtin "type.__getattribute__")) (rd39:W.readsIn K C_Walker (.type "type")=true)
   {f39:L6} {y39:Fv} (a39:W.findIn K ↥C_Walker "__init__"=⇑⇑↥f39) (i39:W.isFn K ↥f39=true) (l39:FL K f39 y39 "__init__" "Walker.__init__" gJ)
   (fc39:W.findCls K ↥C_Walker (.type "type") "__init__"=⇑(.val ↥f39))
   {f40:L6} {y40:Fv} (a40:W.findIn K ↥C_CodeWalker "__init__"=⇑⇑↥f40) (i40:W.isFn K ↥f40=true) (l40:FL K f40 y40 "__init__" "CodeWalker.__init__" gZ)
   {f41:L6} {y41:Fv} (a41:W.nsIn K mainGlobals "_law_cell_at"=⇑⇑↥f41) (l41:FL K f41 y41 "_law_cell_at" "_law_cell_at" me)
   {f42:L6} {y42:Fv} (a42:W.nsIn K mainGlobals "_law_whole"=⇑⇑↥f42) (l42:FL K f42 y42 "_law_whole" "_law_whole" lq)
   {f43:L6} {y43:Fv} (a43:W.nsIn K mainGlobals "_law_value"=⇑⇑↥f43) (l43:FL K f43 y43 "_law_value" "_law_value" nV)
   {f44:L6} {y44:Fv} (a44:W.nsIn K mainGlobals "_law_number"=⇑⇑↥f44) (l44:FL K f44 y44 "_law_number" "_law_number" mq)
   {f45:L6} {y45:Fv} (a45:W.nsIn K mainGlobals "_law_names"=⇑⇑↥f45) (l45:FL K f45 y45 "_law_names" "_law_names" fk)
   {f46:L6} {y46:Fv} (a46:W.nsIn K mainGlobals "_law_worth"=⇑⇑↥f46) (l46:FL K f46 y46 "_law_worth" "_law_worth" nv)
   {f47:L6} {y47:Fv} (a47:W.nsIn K mainGlobals "_law_some"=⇑⇑↥f47) (l47:FL K f47 y47 "_law_some" "_law_some" gv)
   {f48:L6} {y48:Fv} (a48:W.nsIn K mainGlobals "_law_alike"=⇑⇑↥f48) (l48:FL K f48 y48 "_law_alike" "_law_alike" jm)
   {f49:L6} {y49:Fv} (a49:W.nsIn K mainGlobals "_law_frames"=⇑⇑↥f49) (l49:FL K f49 y49 "_law_frames" "_law_frames" io)
   {f50:L6} {y50:Fv} (a50:W.nsIn K mainGlobals "_law_function"=⇑⇑↥f50) (l50:FL K f50 y50 "_law_function" "_law_function" km)
   {f51:L6} {y51:Fv} (a51:W.nsIn K mainGlobals "_law_mark"=⇑⇑↥f51) (l51:FL K f51 y51 "_law_mark" "_law_mark" jC)
   {f52:L6} {y52:Fv} (a52:W.nsIn K mainGlobals "_law_refused"=⇑⇑↥f52) (l52:FL K f52 y52 "_law_refused" "_law_refused" mS)
   {f53:L6} {y53:Fv} (a53:W.nsIn K mainGlobals "_law_mates"=⇑⇑↥f53) (l53:FL K f53 y53 "_law_mates" "_law_mates" jQ)
   {f54:L6} {y54:Fv} (a54:W.nsIn K mainGlobals "_law_name_told"=⇑⇑↥f54) (l54:FL K f54 y54 "_law_name_told" "_law_name_told" jn)
   {f55:L6} {y55:Fv} (a55:W.nsIn K mainGlobals "_law_stands"=⇑⇑↥f55) (l55:FL K f55 y55 "_law_stands" "_law_stands" eY)
   {f56:L6} {y56:Fv} (a56:W.nsIn K mainGlobals "_law_filled"=⇑⇑↥f56) (l56:FL K f56 y56 "_law_filled" "_law_filled" gX)
   {f57:L6} {y57:Fv} (a57:W.nsIn K mainGlobals "_law_walked"=⇑⇑↥f57) (l57:FL K f57 y57 "_law_walked" "_law_walked" da)
   {f58:L6} {y58:Fv} (a58:W.nsIn K mainGlobals "law"=⇑⇑↥f58) (l58:FL K f58 y58 "law" "law" cb)
   {tk0:Tok} (w0:W.nsIn K mainGlobals "WIDE"=⇑⇑(.int 281474976710656 tk0))
   {aT0:L6} {odT0:Hl L6} {itT0:Array K'} {nT0:Nat} {slT0:Array (Hl K')} (q0:W.nsIn K mainGlobals "GIVING_KINDS"=⇑⇑↥aT0) (m0:K.lookup aT0=⇑#[.type "tuple",odT0,.seq itT0 nT0,slT0]) (v0:aU (K12.giving.map V.str) itT0.toList) (s0:itT0.size<=sizeLine)
   {aD0:L6} (qD0:W.nsIn K mainGlobals "ATOM_PLACES"=⇑⇑↥aD0) (mD0:PyProof.Rows.KTD.tabLook (jy K) (λa=>K.lookup a) aD0 K12.tabl=true)
   {aD1:L6} (qD1:W.nsIn K mainGlobals "RECKONING_PLACES"=⇑⇑↥aD1) (mD1:PyProof.Rows.KTD.tabLook (jy K) (λa=>K.lookup a) aD1 Cw.rtab=true)
   (z_ValueError:W.nsIn K mainGlobals "ValueError"=⇑none)
   (z_sum:W.nsIn K mainGlobals "sum"=⇑none)
   (z_len:W.nsIn K mainGlobals "len"=⇑none)
   (z_list:W.nsIn K mainGlobals "list"=⇑none)
   (z_tuple:W.nsIn K mainGlobals "tuple"=⇑none)
   (z_isinstance:W.nsIn K mainGlobals "isinstance"=⇑none)
   (z_range:W.nsIn K mainGlobals "range"=⇑none)
   (z_enumerate:W.nsIn K mainGlobals "enumerate"=⇑none)
   (z_dict:W.nsIn K mainGlobals "dict"=⇑none)
   (z_str:W.nsIn K mainGlobals "str"=⇑none)
   (z_int:W.nsIn K mainGlobals "int"=⇑none)
   (z_zip:W.nsIn K mainGlobals "zip"=⇑none)
   (z_bool:W.nsIn K mainGlobals "bool"=⇑none)
   : ∃t,Txt K mg t:=by
 show#[#[X_gE,X_nN,X_Ended,C_Flows,C_Walker,C_CodeWalker,C_CodeFrame,f0,y0.fn "names_of" "names_of" jH,f1,y1.fn "reads" "reads" lZ,f2,y2.fn "gives" "gives" lh,f3,y3.fn "atoms_of" "atoms_of" mJ,f4,y4.fn "each_once" "each_once" m8,f5,y5.fn "ways" "ways" i4,f6,y6.fn "begins_of" "begins_of" jq,f7,y7.fn "firsts_behind" "firsts_behind" jG,f8,y8.fn "__init__" "Flows.__init__" eV,f9,y9.fn "value" "value" mE,f10,y10.fn "worth" "worth" nU,f11,y11.fn "reckonings_of" "reckonings_of" nJ,f12,y12.fn "spots_by_name" "spots_by_name" kW,f13,y13.fn "marks_by_name" "marks_by_name" kq,f14,y14.fn "__init__" "CodeFrame.__init__" iF,f15,y15.fn "worths_of" "CodeFrame.worths_of" mZ,f16,y16.fn "give" "CodeFrame.give" nE,f17,y17.fn "do_sets" "CodeFrame.do_sets" kC,f18,y18.fn "ended" "Walker.ended" mP,f19,y19.fn "answer" "Walker.answer" oE,f20,y20.fn "owner_of" "CodeWalker.owner_of" nj,f21,y21.fn "spot_of" "CodeWalker.spot_of" nt,f22,y22.fn "mark_of" "CodeWalker.mark_of" nY,f23,y23.fn "chain_of" "CodeWalker.chain_of" mi,f24,y24.fn "shown_at" "CodeWalker.shown_at" hU,f25,y25.fn "names_at" "Walker.names_at" nS,f26,y26.fn "ask_for_level" "Walker.ask_for_level" nG,f27,y27.fn "ask_for_name" "Walker.ask_for_name" nM,f28,y28.fn "place" "CodeWalker.place" iA,f29,y29.fn "tell" "CodeWalker.tell" nB,f30,y30.fn "told" "Walker.told" oK,f31,y31.fn "mates" "CodeWalker.mates" gL,f32,y32.fn "fill_box" "CodeWalker.fill_box" mY,f33,y33.fn "frames" "Walker.frames" kB,f34,y34.fn "begin" "CodeWalker.begin" lj,f35,y35.fn "go_back" "CodeWalker.go_back" kZ,f36,y36.fn "do_act" "CodeWalker.do_act" j7,f37,y37.fn "walk_on" "CodeWalker.walk_on" gp,f38,y38.fn "step" "Walker.step" mF,f39,y39.fn "__init__" "Walker.__init__" gJ,f40,y40.fn "__init__" "CodeWalker.__init__" gZ,f41,y41.fn "_law_cell_at" "_law_cell_at" me,f42,y42.fn "_law_whole" "_law_whole" lq,f43,y43.fn "_law_value" "_law_value" nV,f44,y44.fn "_law_number" "_law_number" mq,f45,y45.fn "_law_names" "_law_names" fk,f46,y46.fn "_law_worth" "_law_worth" nv,f47,y47.fn "_law_some" "_law_some" gv,f48,y48.fn "_law_alike" "_law_alike" jm,f49,y49.fn "_law_frames" "_law_frames" io,f50,y50.fn "_law_function" "_law_function" km,f51,y51.fn "_law_mark" "_law_mark" jC,f52,y52.fn "_law_refused" "_law_refused" mS,f53,y53.fn "_law_mates" "_law_mates" jQ,f54,y54.fn "_law_name_told" "_law_name_told" jn,f55,y55.fn "_law_stands" "_law_stands" eY,f56,y56.fn "_law_filled" "_law_filled" gX,f57,y57.fn "_law_walked" "_law_walked" da,f58,y58.fn "law" "law" cb,aT0,aD0,aD1],?_];have bl:∀(s:L5) (u:K'),BindsTo s (y58.fn "law" "law" cb) ⟨[u],[]⟩ [("_law_script",u)]:=λs u=>.of_eq rfl;show#[(pC X G xa_gE xl_gE xv_gE xk_gE xs_gE xg_gE xt_gE xc_gE sg0 tkX0),
   (pC X G xa_nN xl_nN xv_nN xk_nN xs_nN xg_nN xt_nN xc_nN sg0 tkX0),
   (pC X G xa_Ended xl_Ended xv_Ended xk_Ended xs_Ended xg_Ended xt_Ended xc_Ended sg0 tkX0),
   (i0_nN),
   (e_nN),
   (kk_NoName_nN),
   (kk_NoName_Ended),
   (kv_nN),
   (i0_Ended),
   (e_Ended),
   (kk_Ended_nN),
   (kk_Ended_Ended),
   (kv_Ended),
   (bf X G a0 l0.1 l0.2.1 l0.2.2 λ_ _ _ _ _ _ us hl=>match us,hl with | [_],_=>rfl),
   (bf X G a1 l1.1 l1.2.1 l1.2.2 λ_ _ _ _ _ _ us hl=>match us,hl with | [_],_=>rfl),
   (bf X G a2 l2.1 l2.2.1 l2.2.2 λ_ _ _ _ _ _ us hl=>match us,hl with | [_],_=>rfl),
   (bf X G a3 l3.1 l3.2.1 l3.2.2 λ_ _ _ _ _ _ us hl=>match us,hl with | [_],_=>rfl),
   (bf X G a4 l4.1 l4.2.1 l4.2.2 λ_ _ _ _ _ _ us hl=>match us,hl with | [_],_=>rfl),
   (bf X G a5 l5.1 l5.2.1 l5.2.2 λ_ _ _ _ _ _ us hl=>match us,hl with | [_],_=>rfl),
   (bf X G a6 l6.1 l6.2.1 l6.2.2 λ_ _ _ _ _ _ us hl=>match us,hl with | [_],_=>rfl),
   (bf X G a7 l7.1 l7.2.1 l7.2.2 λ_ _ _ _ _ _ us hl=>match us,hl with | [_,_],_=>rfl),
   (px mk_Flows kc_Flows a8 i8 l8.1 l8.2.1 l8.2.2 λ_ _ _ _ _ _ us hl=>match us,hl with | [_,_],_=>rfl),
   (bf X G a9 l9.1 l9.2.1 l9.2.2 λ_ _ _ _ _ _ us hl=>match us,hl with | [_,_,_],_=>rfl),
   (bf X G a10 l10.1 l10.2.1 l10.2.2 λ_ _ _ _ _ _ us hl=>match us,hl with | [_,_],_=>rfl),
   (bf X G a11 l11.1 l11.2.1 l11.2.2 λ_ _ _ _ _ _ us hl=>match us,hl with | [_],_=>rfl),
   (bf X G a12 l12.1 l12.2.1 l12.2.2 λ_ _ _ _ _ _ us hl=>match us,hl with | [_],_=>rfl),
   (bf X G a13 l13.1 l13.2.1 l13.2.2 λ_ _ _ _ _ _ us hl=>match us,hl with | [_],_=>rfl),
   (px mk_CodeFrame kc_CodeFrame a14 i14 l14.1 l14.2.1 l14.2.2 λ_ _ _ _ _ _ us hl=>match us,hl with | [_,_,_,_],_=>rfl),
   (cJ a15 i15 l15.1 l15.2.1 l15.2.2 λ_ _ _ _ _ _ us hl=>match us,hl with | [_,_],_=>rfl),
   (cJ a16 i16 l16.1 l16.2.1 l16.2.2 λ_ _ _ _ _ _ us hl=>match us,hl with | [_,_,_],_=>rfl),
   (cJ a17 i17 l17.1 l17.2.1 l17.2.2 λ_ _ _ _ _ _ us hl=>match us,hl with | [_,_],_=>rfl),
   (cJ a18 i18 l18.1 l18.2.1 l18.2.2 λ_ _ _ _ _ _ us hl=>match us,hl with | [_],_=>rfl),
   (cJ a19 i19 l19.1 l19.2.1 l19.2.2 λ_ _ _ _ _ _ us hl=>match us,hl with | [_],_=>rfl),
   (cJ a20 i20 l20.1 l20.2.1 l20.2.2 λ_ _ _ _ _ _ us hl=>match us,hl with | [_,_],_=>rfl),
   (cJ a21 i21 l21.1 l21.2.1 l21.2.2 λ_ _ _ _ _ _ us hl=>match us,hl with | [_,_],_=>rfl),
   (cJ a22 i22 l22.1 l22.2.1 l22.2.2 λ_ _ _ _ _ _ us hl=>match us,hl with | [_,_],_=>rfl),
   (cJ a23 i23 l23.1 l23.2.1 l23.2.2 λ_ _ _ _ _ _ us hl=>match us,hl with | [_,_],_=>rfl),
   (cJ a24 i24 l24.1 l24.2.1 l24.2.2 λ_ _ _ _ _ _ us hl=>match us,hl with | [_,_],_=>rfl),
   (cJ a25 i25 l25.1 l25.2.1 l25.2.2 λ_ _ _ _ _ _ us hl=>match us,hl with | [_,_],_=>rfl),
   (cJ a26 i26 l26.1 l26.2.1 l26.2.2 λ_ _ _ _ _ _ us hl=>match us,hl with | [_,_],_=>rfl),
   (cJ a27 i27 l27.1 l27.2.1 l27.2.2 λ_ _ _ _ _ _ us hl=>match us,hl with | [_,_,_],_=>rfl),
   (cJ a28 i28 l28.1 l28.2.1 l28.2.2 λ_ _ _ _ _ _ us hl=>match us,hl with | [_,_,_],_=>rfl),
   (cJ a29 i29 l29.1 l29.2.1 l29.2.2 λ_ _ _ _ _ _ us hl=>match us,hl with | [_,_,_],_=>rfl),
   (cJ a30 i30 l30.1 l30.2.1 l30.2.2 λ_ _ _ _ _ _ us hl=>match us,hl with | [_,_,_],_=>rfl),
   (cJ a31 i31 l31.1 l31.2.1 l31.2.2 λ_ _ _ _ _ _ us hl=>match us,hl with | [_,_],_=>rfl),
   (cJ a32 i32 l32.1 l32.2.1 l32.2.2 λ_ _ _ _ _ _ us hl=>match us,hl with | [_,_,_,_],_=>rfl),
   (cJ a33 i33 l33.1 l33.2.1 l33.2.2 λ_ _ _ _ _ _ us hl=>match us,hl with | [_],_=>rfl),
   (cJ a34 i34 l34.1 l34.2.1 l34.2.2 λ_ _ _ _ _ _ us hl=>match us,hl with | [_,_,_],_=>rfl),
   (cJ a35 i35 l35.1 l35.2.1 l35.2.2 λ_ _ _ _ _ _ us hl=>match us,hl with | [_,_],_=>rfl),
   (cJ a36 i36 l36.1 l36.2.1 l36.2.2 λ_ _ _ _ _ _ us hl=>match us,hl with | [_,_,_,_],_=>rfl),
   (cJ a37 i37 l37.1 l37.2.1 l37.2.2 λ_ _ _ _ _ _ us hl=>match us,hl with | [_],_=>rfl),
   (cJ a38 i38 l38.1 l38.2.1 l38.2.2 λ_ _ _ _ _ _ us hl=>match us,hl with | [_],_=>rfl),
   (za ga39 rd39 fc39 l39.1 l39.2.1 l39.2.2 λ_ _ _ _ _ _ us hl=>match us,hl with | [_,_],_=>rfl),
   (px mk_CodeWalker kc_CodeWalker a40 i40 l40.1 l40.2.1 l40.2.2 λ_ _ _ _ _ _ us hl=>match us,hl with | [_,_,_,_,_],_=>rfl),
   (bf X G a41 l41.1 l41.2.1 l41.2.2 λ_ _ _ _ _ _ us hl=>match us,hl with | [_,_],_=>rfl),
   (bf X G a42 l42.1 l42.2.1 l42.2.2 λ_ _ _ _ _ _ us hl=>match us,hl with | [_],_=>rfl),
   (bf X G a43 l43.1 l43.2.1 l43.2.2 λ_ _ _ _ _ _ us hl=>match us,hl with | [_,_,_],_=>rfl),
   (bf X G a44 l44.1 l44.2.1 l44.2.2 λ_ _ _ _ _ _ us hl=>match us,hl with | [_],_=>rfl),
   (bf X G a45 l45.1 l45.2.1 l45.2.2 λ_ _ _ _ _ _ us hl=>match us,hl with | [_,_],_=>rfl),
   (bf X G a46 l46.1 l46.2.1 l46.2.2 λ_ _ _ _ _ _ us hl=>match us,hl with | [_,_],_=>rfl),
   (bf X G a47 l47.1 l47.2.1 l47.2.2 λ_ _ _ _ _ _ us hl=>match us,hl with | [_,_],_=>rfl),
   (bf X G a48 l48.1 l48.2.1 l48.2.2 λ_ _ _ _ _ _ us hl=>match us,hl with | [_,_],_=>rfl),
   (bf X G a49 l49.1 l49.2.1 l49.2.2 λ_ _ _ _ _ _ us hl=>match us,hl with | [_,_],_=>rfl),
   (bf X G a50 l50.1 l50.2.1 l50.2.2 λ_ _ _ _ _ _ us hl=>match us,hl with | [_,_,_],_=>rfl),
   (bf X G a51 l51.1 l51.2.1 l51.2.2 λ_ _ _ _ _ _ us hl=>match us,hl with | [_,_,_,_],_=>rfl),
   (bf X G a52 l52.1 l52.2.1 l52.2.2 λ_ _ _ _ _ _ us hl=>match us,hl with | [_,_,_,_],_=>rfl),
   (bf X G a53 l53.1 l53.2.1 l53.2.2 λ_ _ _ _ _ _ us hl=>match us,hl with | [_,_],_=>rfl),
   (bf X G a54 l54.1 l54.2.1 l54.2.2 λ_ _ _ _ _ _ us hl=>match us,hl with | [_,_,_,_,_],_=>rfl),
   (bf X G a55 l55.1 l55.2.1 l55.2.2 λ_ _ _ _ _ _ us hl=>match us,hl with | [_,_,_,_],_=>rfl),
   (bf X G a56 l56.1 l56.2.1 l56.2.2 λ_ _ _ _ _ _ us hl=>match us,hl with | [_,_,_,_,_],_=>rfl),
   (bf X G a57 l57.1 l57.2.1 l57.2.2 λ_ _ _ _ _ _ us hl=>match us,hl with | [_,_,_,_,_],_=>rfl),
   (bf X G a58 l58.1 l58.2.1 l58.2.2 λ_ _ _ _ _ _ us hl=>match us,hl with | [_],_=>rfl),
   #[#[pg_Flows,hd_Flows,po_Flows,sa_Flows],W.mg_of X G aC_Flows],
   #[#[pg_Walker,hd_Walker,po_Walker,sa_Walker],W.mg_of X G aC_Walker],
   #[#[pg_CodeWalker,hd_CodeWalker,po_CodeWalker,sa_CodeWalker],W.mg_of X G aC_CodeWalker],
   #[#[pg_CodeFrame,hd_CodeFrame,po_CodeFrame,sa_CodeFrame],W.mg_of X G aC_CodeFrame],
   ja,
   jb,
   jZ,
   jc,
   jd,
   ig,
   je,
   ic,
   dy,
   ie,
   lX,
   lU,
   lV,
   jY,
   jX,
   fK,
   ib,
   gV,
   gs,
   eQ,
   #[_,W.mg_of X G w0],
   W.mg_of X G q0,
   (λH=>.inr #[_,itT0,nT0,m0,7,s0,v0]),
   W.mg_of X G qD0,
   tV mD0,
   W.mg_of X G qD1,
   tV mD1,
   W.mg_none_of X G z_ValueError,
   W.mg_none_of X G z_sum,
   W.mg_none_of X G z_len,
   W.mg_none_of X G z_list,
   W.mg_none_of X G z_tuple,
   W.mg_none_of X G z_isinstance,
   W.mg_none_of X G z_range,
   W.mg_none_of X G z_enumerate,
   W.mg_none_of X G z_dict,
   W.mg_none_of X G z_str,
   W.mg_none_of X G z_int,
   W.mg_none_of X G z_zip,
   W.mg_none_of X G z_bool,
   bl]
end K38
end
open PySem PySem.W PyProof.Rows
set_option maxRecDepth 100000 in
set_option maxHeartbeats 0 in
theorem PySem.Challenge.cw_stopglass_k38_told_by_places_holds : PySem.Challenge.rw_stopglass_k38_told_by_places.Holds := by
 refine Hd.pk.2 ?_
 unfold Hd.pk
 dsimp only
 k_fill
 refine L2.walk_ofK (l:=PySem.Challenge.rw_stopglass_k38_told_by_places) (n:=63) (k:=19) (x:="_law_script") (CX:=L2.CX0) (sp:=K38.sp_law) rfl (by decide) rfl ⟨rfl,by decide,by decide⟩ (λw h Y=>PySem.W.kIn_of Y) ?F ?S ?C
 case F =>
   intro w mg fa h KX G hmg;have T:∃t,K38.Txt (L2.KOf KX) mg t:=by
     dsimp only[L2.KOf]
     refine' K38.txt_mk KX G ?aC_Flows ?pg_Flows ?hd_Flows ?po_Flows ?sa_Flows ?mk_Flows ?kc_Flows ?ja ?jb ?jZ ?jc ?jd ?ig ?je ?aC_Walker ?pg_Walker ?hd_Walker ?po_Walker ?sa_Walker ?mk_Walker ?kc_Walker ?aC_CodeWalker ?pg_CodeWalker ?hd_CodeWalker ?po_CodeWalker ?sa_CodeWalker ?mk_CodeWalker ?kc_CodeWalker ?ic ?dy ?ie ?lX ?lU ?lV ?jY ?jX ?fK ?aC_CodeFrame ?pg_CodeFrame ?hd_CodeFrame ?po_CodeFrame ?sa_CodeFrame ?mk_CodeFrame ?kc_CodeFrame ?ib ?gV ?gs ?eQ ?xa_gE ?xl_gE ?xv_gE ?xk_gE ?xs_gE ?xg_gE ?xt_gE ?xc_gE ?xa_nN ?xl_nN ?xv_nN ?xk_nN ?xs_nN ?xg_nN ?xt_nN ?xc_nN ?xa_Ended ?xl_Ended ?xv_Ended ?xk_Ended ?xs_Ended ?xg_Ended ?xt_Ended ?xc_Ended ?sg0 ?tkX0 ?i0_nN ?e_nN ?kk_NoName_nN ?kk_NoName_Ended ?kv_nN ?i0_Ended ?e_Ended ?kk_Ended_nN ?kk_Ended_Ended ?kv_Ended ?a0 ?l0 ?a1 ?l1 ?a2 ?l2 ?a3 ?l3 ?a4 ?l4 ?a5 ?l5 ?a6 ?l6 ?a7 ?l7 ?a8 ?i8 ?l8 ?a9 ?l9 ?a10 ?l10 ?a11 ?l11 ?a12 ?l12 ?a13 ?l13 ?a14 ?i14 ?l14 ?a15 ?i15 ?l15 ?a16 ?i16 ?l16 ?a17 ?i17 ?l17 ?a18 ?i18 ?l18 ?a19 ?i19 ?l19 ?a20 ?i20 ?l20 ?a21 ?i21 ?l21 ?a22 ?i22 ?l22 ?a23 ?i23 ?l23 ?a24 ?i24 ?l24 ?a25 ?i25 ?l25 ?a26 ?i26 ?l26 ?a27 ?i27 ?l27 ?a28 ?i28 ?l28 ?a29 ?i29 ?l29 ?a30 ?i30 ?l30 ?a31 ?i31 ?l31 ?a32 ?i32 ?l32 ?a33 ?i33 ?l33 ?a34 ?i34 ?l34 ?a35 ?i35 ?l35 ?a36 ?i36 ?l36 ?a37 ?i37 ?l37 ?a38 ?i38 ?l38 ?ga39 ?rd39 ?a39 ?i39 ?l39 ?fc39 ?a40 ?i40 ?l40 ?a41 ?l41 ?a42 ?l42 ?a43 ?l43 ?a44 ?l44 ?a45 ?l45 ?a46 ?l46 ?a47 ?l47 ?a48 ?l48 ?a49 ?l49 ?a50 ?l50 ?a51 ?l51 ?a52 ?l52 ?a53 ?l53 ?a54 ?l54 ?a55 ?l55 ?a56 ?l56 ?a57 ?l57 ?a58 ?l58 ?w0 ?q0 ?m0 ?v0 ?s0 ?qD0 ?mD0 ?qD1 ?mD1 ?z_ValueError ?z_sum ?z_len ?z_list ?z_tuple ?z_isinstance ?z_range ?z_enumerate ?z_dict ?z_str ?z_int ?z_zip ?z_bool
     (case aC_Flows=>k_is)
     (case pg_Flows=>k_is)
     (case hd_Flows=>k_is)
     (case po_Flows=>k_is)
     (case sa_Flows=>k_is)
     (case mk_Flows=>k_is)
     (case kc_Flows=>k_is)
     (case ja=>k_is)
     (case jb=>k_is)
     (case jZ=>k_is)
     (case jc=>k_is)
     (case jd=>k_is)
     (case ig=>k_is)
     (case je=>k_is)
     (case aC_Walker=>k_is)
     (case pg_Walker=>k_is)
     (case hd_Walker=>k_is)
     (case po_Walker=>k_is)
     (case sa_Walker=>k_is)
     (case mk_Walker=>k_is)
     (case kc_Walker=>k_is)
     (case aC_CodeWalker=>k_is)
     (case pg_CodeWalker=>k_is)
     (case hd_CodeWalker=>k_is)
     (case po_CodeWalker=>k_is)
     (case sa_CodeWalker=>k_is)
     (case mk_CodeWalker=>k_is)
     (case kc_CodeWalker=>k_is)
     (case ic=>k_is)
     (case dy=>k_is)
     (case ie=>k_is)
     (case lX=>k_is)
     (case lU=>k_is)
     (case lV=>k_is)
     (case jY=>k_is)
     (case jX=>k_is)
     (case fK=>k_is)
     (case aC_CodeFrame=>k_is)
     (case pg_CodeFrame=>k_is)
     (case hd_CodeFrame=>k_is)
     (case po_CodeFrame=>k_is)
     (case sa_CodeFrame=>k_is)
     (case mk_CodeFrame=>k_is)
     (case kc_CodeFrame=>k_is)
     (case ib=>k_is)
     (case gV=>k_is)
     (case gs=>k_is)
     (case eQ=>k_is)
     (case xa_gE=>k_is)
     (case xl_gE=>k_is)
     (case xv_gE=>first|k_is|kernel_rfl)
     (case xk_gE=>k_is)
     (case xs_gE=>k_is)
     (case xg_gE=>k_is)
     (case xt_gE=>k_is)
     (case xc_gE=>k_is)
     (case xa_nN=>k_is)
     (case xl_nN=>k_is)
     (case xv_nN=>first|k_is|kernel_rfl)
     (case xk_nN=>k_is)
     (case xs_nN=>k_is)
     (case xg_nN=>k_is)
     (case xt_nN=>k_is)
     (case xc_nN=>k_is)
     (case xa_Ended=>k_is)
     (case xl_Ended=>k_is)
     (case xv_Ended=>first|k_is|kernel_rfl)
     (case xk_Ended=>k_is)
     (case xs_Ended=>k_is)
     (case xg_Ended=>k_is)
     (case xt_Ended=>k_is)
     (case xc_Ended=>k_is)
     (case sg0=>first|k_is|kernel_rfl)
     (case tkX0=>first|k_is|kernel_rfl)
     (case i0_nN=>first|k_is|kernel_rfl)
     (case e_nN=>first|k_is|kernel_rfl)
     (case kk_NoName_nN=>first|k_is|kernel_rfl)
     (case kk_NoName_Ended=>first|k_is|kernel_rfl)
     (case kv_nN=>first|k_is|kernel_rfl)
     (case i0_Ended=>first|k_is|kernel_rfl)
     (case e_Ended=>first|k_is|kernel_rfl)
     (case kk_Ended_nN=>first|k_is|kernel_rfl)
     (case kk_Ended_Ended=>first|k_is|kernel_rfl)
     (case kv_Ended=>first|k_is|kernel_rfl)
     (case a0=>k_is)
     (case l0=>apply K38.fl_mk <;> k_is)
     (case a1=>k_is)
     (case l1=>apply K38.fl_mk <;> k_is)
     (case a2=>k_is)
     (case l2=>apply K38.fl_mk <;> k_is)
     (case a3=>k_is)
     (case l3=>apply K38.fl_mk <;> k_is)
     (case a4=>k_is)
     (case l4=>apply K38.fl_mk <;> k_is)
     (case a5=>k_is)
     (case l5=>apply K38.fl_mk <;> k_is)
     (case a6=>k_is)
     (case l6=>apply K38.fl_mk <;> k_is)
     (case a7=>k_is)
     (case l7=>apply K38.fl_mk <;> k_is)
     (case a8=>k_is)
     (case i8=>k_is)
     (case l8=>apply K38.fl_mk <;> k_is)
     (case a9=>k_is)
     (case l9=>apply K38.fl_mk <;> k_is)
     (case a10=>k_is)
     (case l10=>apply K38.fl_mk <;> k_is)
     (case a11=>k_is)
     (case l11=>apply K38.fl_mk <;> k_is)
     (case a12=>k_is)
     (case l12=>apply K38.fl_mk <;> k_is)
     (case a13=>k_is)
     (case l13=>apply K38.fl_mk <;> k_is)
     (case a14=>k_is)
     (case i14=>k_is)
     (case l14=>apply K38.fl_mk <;> k_is)
     (case a15=>k_is)
     (case i15=>k_is)
     (case l15=>apply K38.fl_mk <;> k_is)
     (case a16=>k_is)
     (case i16=>k_is)
     (case l16=>apply K38.fl_mk <;> k_is)
     (case a17=>k_is)
     (case i17=>k_is)
     (case l17=>apply K38.fl_mk <;> k_is)
     (case a18=>k_is)
     (case i18=>k_is)
     (case l18=>apply K38.fl_mk <;> k_is)
     (case a19=>k_is)
     (case i19=>k_is)
     (case l19=>apply K38.fl_mk <;> k_is)
     (case a20=>k_is)
     (case i20=>k_is)
     (case l20=>apply K38.fl_mk <;> k_is)
     (case a21=>k_is)
     (case i21=>k_is)
     (case l21=>apply K38.fl_mk <;> k_is)
     (case a22=>k_is)
     (case i22=>k_is)
     (case l22=>apply K38.fl_mk <;> k_is)
     (case a23=>k_is)
     (case i23=>k_is)
     (case l23=>apply K38.fl_mk <;> k_is)
     (case a24=>k_is)
     (case i24=>k_is)
     (case l24=>apply K38.fl_mk <;> k_is)
     (case a25=>k_is)
     (case i25=>k_is)
     (case l25=>apply K38.fl_mk <;> k_is)
     (case a26=>k_is)
     (case i26=>k_is)
     (case l26=>apply K38.fl_mk <;> k_is)
     (case a27=>k_is)
     (case i27=>k_is)
     (case l27=>apply K38.fl_mk <;> k_is)
     (case a28=>k_is)
     (case i28=>k_is)
     (case l28=>apply K38.fl_mk <;> k_is)
     (case a29=>k_is)
     (case i29=>k_is)
     (case l29=>apply K38.fl_mk <;> k_is)
     (case a30=>k_is)
     (case i30=>k_is)
     (case l30=>apply K38.fl_mk <;> k_is)
     (case a31=>k_is)
     (case i31=>k_is)
     (case l31=>apply K38.fl_mk <;> k_is)
     (case a32=>k_is)
     (case i32=>k_is)
     (case l32=>apply K38.fl_mk <;> k_is)
     (case a33=>k_is)
     (case i33=>k_is)
     (case l33=>apply K38.fl_mk <;> k_is)
     (case a34=>k_is)
     (case i34=>k_is)
     (case l34=>apply K38.fl_mk <;> k_is)
     (case a35=>k_is)
     (case i35=>k_is)
     (case l35=>apply K38.fl_mk <;> k_is)
     (case a36=>k_is)
     (case i36=>k_is)
     (case l36=>apply K38.fl_mk <;> k_is)
     (case a37=>k_is)
     (case i37=>k_is)
     (case l37=>apply K38.fl_mk <;> k_is)
     (case a38=>k_is)
     (case i38=>k_is)
     (case l38=>apply K38.fl_mk <;> k_is)
     (case ga39=>first|k_is|kernel_rfl)
     (case rd39=>first|k_is|kernel_rfl)
     (case a39=>k_is)
     (case i39=>k_is)
     (case l39=>apply K38.fl_mk <;> k_is)
     (case fc39=>first|k_is|kernel_rfl)
     (case a40=>k_is)
     (case i40=>k_is)
     (case l40=>apply K38.fl_mk <;> k_is)
     (case a41=>k_is)
     (case l41=>apply K38.fl_mk <;> k_is)
     (case a42=>k_is)
     (case l42=>apply K38.fl_mk <;> k_is)
     (case a43=>k_is)
     (case l43=>apply K38.fl_mk <;> k_is)
     (case a44=>k_is)
     (case l44=>apply K38.fl_mk <;> k_is)
     (case a45=>k_is)
     (case l45=>apply K38.fl_mk <;> k_is)
     (case a46=>k_is)
     (case l46=>apply K38.fl_mk <;> k_is)
     (case a47=>k_is)
     (case l47=>apply K38.fl_mk <;> k_is)
     (case a48=>k_is)
     (case l48=>apply K38.fl_mk <;> k_is)
     (case a49=>k_is)
     (case l49=>apply K38.fl_mk <;> k_is)
     (case a50=>k_is)
     (case l50=>apply K38.fl_mk <;> k_is)
     (case a51=>k_is)
     (case l51=>apply K38.fl_mk <;> k_is)
     (case a52=>k_is)
     (case l52=>apply K38.fl_mk <;> k_is)
     (case a53=>k_is)
     (case l53=>apply K38.fl_mk <;> k_is)
     (case a54=>k_is)
     (case l54=>apply K38.fl_mk <;> k_is)
     (case a55=>k_is)
     (case l55=>apply K38.fl_mk <;> k_is)
     (case a56=>k_is)
     (case l56=>apply K38.fl_mk <;> k_is)
     (case a57=>k_is)
     (case l57=>apply K38.fl_mk <;> k_is)
     (case a58=>k_is)
     (case l58=>apply K38.fl_mk <;> k_is)
     (case w0=>k_is)
     (case q0=>k_is)
     (case m0=>k_is)
     (case v0=>(repeat (first|exact .nil|refine .cons ⟨_,rfl⟩ ?_)))
     (case s0=>decide)
     (case qD0=>k_is)
     (case mD0=>kernel_rfl)
     (case qD1=>k_is)
     (case mD1=>kernel_rfl)
     (case z_ValueError=>k_is)
     (case z_sum=>k_is)
     (case z_len=>k_is)
     (case z_list=>k_is)
     (case z_tuple=>k_is)
     (case z_isinstance=>k_is)
     (case z_range=>k_is)
     (case z_enumerate=>k_is)
     (case z_dict=>k_is)
     (case z_str=>k_is)
     (case z_int=>k_is)
     (case z_zip=>k_is)
     (case z_bool=>k_is)
   obtain⟨t,T⟩:=T;have e0:=hmg.symm.trans T.law.g;cases e0;exact⟨t.oM,T.bl,λbase kb nb=>K38.ok_law T⟩
 case S=>exact λK H a ns hl hO hS=>⟨a,ns,rfl,hS,hl,λ_=>rfl⟩
 case C=>exact λ_ _ _ _ z=>z
