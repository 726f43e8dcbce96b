import PyProof.Rows.All
import OpenK.KLine
import OpenK.KQuick
import Wide.Line
import KE.KDictList
import KE.KDictOf
import KE.KEqDict
import KE.KFromBytes
import KE.KIntText
import KE.KIsAll
import KE.KItem
import KE.KRevIter
import KE.KTabLook
import Lean
import PySem.Challenge.RW_stopglass_k38_told_by_places
set_option Elab.async false
set_option linter.all false
set_option maxRecDepth 100000
section
namespace Hd
open PySem PySem.W PyProof.Rows
lay_quick PySem.W.topFrom
noncomputable abbrev TQ := PySem.W.Fast.tw370005188180407882 PySem.W.Fast.tw14364793385576792824
noncomputable abbrev OQ := PySem.W.Fast.tw4187177175401517315
noncomputable abbrev tp : Program := PySem.Challenge.pw_stopglass_k38_told_by_places
abbrev lo : List Str := [PySem.Str.ofString "ATOM_PLACES", PySem.Str.ofString "RECKONING_PLACES"]
def keeps : PySem.Stmt → Bool
 | .Assign [.Name x _] _ _ => !decide (x = "__name__")
 | _ => true
def viewOf (p : Program) : Program := { p with main := { p.main with body := p.main.body.filter keeps } }
abbrev Xf : Program → Shared → Bool := (fun p s => xlAt (viewOf p) [] s && recOk (RowW.records (OpenRow.toRowW (OpenLaw.row PySem.Challenge.rw_stopglass_k38_told_by_places))) s)
noncomputable def S0 (w : World) (os : OsState) : Shared := ⟨boot_heap w.params, Array.mk [], boot_drawn, boot_toks, os⟩
theorem ws : PySem.Challenge.rw_stopglass_k38_told_by_places.wellSaid = true := by kernel_rfl
section
local macro_rules | `(tactic| o_head $H) => `(tactic| (case Hk => exact $H))
noncomputable def hk : (H : Hook) ×' ((∀ P : Prop, P) → PySem.Challenge.rw_stopglass_k38_told_by_places.Holds) := by
 refine ⟨?Hk, fun h => ?m⟩
 rotate_left
 w_on; refine holds_law ws fun said => ?_; k_head; exact h _
end
noncomputable def fs {α β : Type} (x : α × β) : α := Prod.rec (fun a _ => a) x
noncomputable def sn {α β : Type} (x : α × β) : β := Prod.rec (fun _ b => b) x
def tk {α : Type} : Nat → List α → List α
 | 0, _ => []
 | _ + 1, [] => []
 | n + 1, a :: l => a :: tk n l
def dk {α : Type} : Nat → List α → List α
 | 0, l => l
 | _ + 1, [] => []
 | n + 1, _ :: l => dk n l
theorem tk_eq {α : Type} : ∀ (n : Nat) (l : List α), tk n l = l.take n
 | 0, _ => rfl
 | _ + 1, [] => rfl
 | n + 1, a :: l => congrArg (a :: ·) (tk_eq n l)
theorem dk_eq {α : Type} : ∀ (n : Nat) (l : List α), dk n l = l.drop n
 | 0, _ => rfl
 | _ + 1, [] => rfl
 | n + 1, _ :: l => dk_eq n l
theorem opt13 {σ a1 a2 a3 a4 a5 a6 a7 a8 ρ δ : Type} {x : Option σ} {f : σ → a1 × a2 × a3 × a4 × a5 × a6 × a7 × a8 × ρ} {v : a1 × a2 × a3 × a4 × a5 × a6 × a7 × a8 × ρ} {g : σ → List δ} {c : List δ} {n : Nat}
 (hA : x.map (fun s => ((f s).1, (f s).2.1, (f s).2.2.1)) = some (fs v, fs (sn v), fs (sn (sn v))))
 (hB : x.map (fun s => ((f s).2.2.2.1, (f s).2.2.2.2.1, (f s).2.2.2.2.2.2.1, (f s).2.2.2.2.2.2.2.1, (f s).2.2.2.2.2.2.2.2)) = some (fs (sn (sn (sn v))), fs (sn (sn (sn (sn v)))), fs (sn (sn (sn (sn (sn (sn v)))))), fs (sn (sn (sn (sn (sn (sn (sn v))))))), sn (sn (sn (sn (sn (sn (sn (sn v)))))))))
 (hC : x.map (fun s => ((f s).2.2.2.2.2.1)) = some (fs (sn (sn (sn (sn (sn v)))))))
 (hE : x.map (fun s => List.take n (g s)) = some (tk n c)) (hF : x.map (fun s => List.drop n (g s)) = some (dk n c)) : x.map (fun s => (f s, g s)) = some (v, c) := by
 cases x with
 | none => cases hA
 | some s =>
  have eA := Option.some.inj hA
  have eB := Option.some.inj hB
  have eE : List.take n (g s) = List.take n c := (Option.some.inj hE).trans (tk_eq n c)
  have eF : List.drop n (g s) = List.drop n c := (Option.some.inj hF).trans (dk_eq n c)
  have eg : g s = c := by rw [← List.take_append_drop n (g s), ← List.take_append_drop n c, eE, eF]
  have key : ∀ u w : a1 × a2 × a3 × a4 × a5 × a6 × a7 × a8 × ρ, u.1 = fs w → u.2.1 = fs (sn w) → u.2.2.1 = fs (sn (sn w)) → u.2.2.2.1 = fs (sn (sn (sn w))) → u.2.2.2.2.1 = fs (sn (sn (sn (sn w)))) → u.2.2.2.2.2.1 = fs (sn (sn (sn (sn (sn w))))) → u.2.2.2.2.2.2.1 = fs (sn (sn (sn (sn (sn (sn w)))))) → u.2.2.2.2.2.2.2.1 = fs (sn (sn (sn (sn (sn (sn (sn w))))))) → u.2.2.2.2.2.2.2.2 = sn (sn (sn (sn (sn (sn (sn (sn w))))))) → u = w := by
   rintro ⟨u1, u2, u3, u4, u5, u6, u7, u8, ur⟩ ⟨v1, v2, v3, v4, v5, v6, v7, v8, vr⟩ h1 h2 h3 h4 h5 h6 h7 h8 h9
   cases h1; cases h2; cases h3; cases h4; cases h5; cases h6; cases h7; cases h8; cases h9
   rfl
  have ef : f s = v := key _ _ (congrArg (fun z => z.1) eA) (congrArg (fun z => z.2.1) eA) (congrArg (fun z => z.2.2) eA) (congrArg (fun z => z.1) eB) (congrArg (fun z => z.2.1) eB) (Option.some.inj hC) (congrArg (fun z => z.2.2.1) eB) (congrArg (fun z => z.2.2.2.1) eB) (congrArg (fun z => z.2.2.2.2) eB)
  show some (f s, g s) = _
  rw [ef, eg]
theorem r1c : ∀ (w : World) (os : OsState), (TQ tp (w.withFollow "special-get-raises" true) 20000 (S0 (w.withFollow "special-get-raises" true) os)).map (fun s => ((OQ (viewOf tp) lo (importedModules tp.main.body) (Xf tp) true s).2.2.2.2.2.1)) = some ((fs (sn (sn (sn (sn (sn (openGood (viewOf tp) lo)))))))) := by
 intro w os; kernel_rfl
theorem r0c : ∀ (w : World) (os : OsState), (TQ tp (w.withFollow "special-get-raises" false) 20000 (S0 (w.withFollow "special-get-raises" false) os)).map (fun s => ((OQ (viewOf tp) lo (importedModules tp.main.body) (Xf tp) true s).2.2.2.2.2.1)) = some ((fs (sn (sn (sn (sn (sn (openGood (viewOf tp) lo)))))))) := by
 intro w os; kernel_rfl
theorem r1b : ∀ (w : World) (os : OsState), (TQ tp (w.withFollow "special-get-raises" true) 20000 (S0 (w.withFollow "special-get-raises" true) os)).map (fun s => ((OQ (viewOf tp) lo (importedModules tp.main.body) (Xf tp) true s).2.2.2.1, (OQ (viewOf tp) lo (importedModules tp.main.body) (Xf tp) true s).2.2.2.2.1, (OQ (viewOf tp) lo (importedModules tp.main.body) (Xf tp) true s).2.2.2.2.2.2.1, (OQ (viewOf tp) lo (importedModules tp.main.body) (Xf tp) true s).2.2.2.2.2.2.2.1, (OQ (viewOf tp) lo (importedModules tp.main.body) (Xf tp) true s).2.2.2.2.2.2.2.2)) = some ((fs (sn (sn (sn (openGood (viewOf tp) lo))))), (fs (sn (sn (sn (sn (openGood (viewOf tp) lo)))))), (fs (sn (sn (sn (sn (sn (sn (openGood (viewOf tp) lo)))))))), (fs (sn (sn (sn (sn (sn (sn (sn (openGood (viewOf tp) lo))))))))), (sn (sn (sn (sn (sn (sn (sn (sn (openGood (viewOf tp) lo)))))))))) := by
 intro w os; kernel_rfl
theorem r0b : ∀ (w : World) (os : OsState), (TQ tp (w.withFollow "special-get-raises" false) 20000 (S0 (w.withFollow "special-get-raises" false) os)).map (fun s => ((OQ (viewOf tp) lo (importedModules tp.main.body) (Xf tp) true s).2.2.2.1, (OQ (viewOf tp) lo (importedModules tp.main.body) (Xf tp) true s).2.2.2.2.1, (OQ (viewOf tp) lo (importedModules tp.main.body) (Xf tp) true s).2.2.2.2.2.2.1, (OQ (viewOf tp) lo (importedModules tp.main.body) (Xf tp) true s).2.2.2.2.2.2.2.1, (OQ (viewOf tp) lo (importedModules tp.main.body) (Xf tp) true s).2.2.2.2.2.2.2.2)) = some ((fs (sn (sn (sn (openGood (viewOf tp) lo))))), (fs (sn (sn (sn (sn (openGood (viewOf tp) lo)))))), (fs (sn (sn (sn (sn (sn (sn (openGood (viewOf tp) lo)))))))), (fs (sn (sn (sn (sn (sn (sn (sn (openGood (viewOf tp) lo))))))))), (sn (sn (sn (sn (sn (sn (sn (sn (openGood (viewOf tp) lo)))))))))) := by
 intro w os; kernel_rfl
theorem r1a : ∀ (w : World) (os : OsState), (TQ tp (w.withFollow "special-get-raises" true) 20000 (S0 (w.withFollow "special-get-raises" true) os)).map (fun s => ((OQ (viewOf tp) lo (importedModules tp.main.body) (Xf tp) true s).1, (OQ (viewOf tp) lo (importedModules tp.main.body) (Xf tp) true s).2.1, (OQ (viewOf tp) lo (importedModules tp.main.body) (Xf tp) true s).2.2.1)) = some ((fs (openGood (viewOf tp) lo)), (fs (sn (openGood (viewOf tp) lo))), (fs (sn (sn (openGood (viewOf tp) lo))))) := by
 intro w os; kernel_rfl
theorem r1e : ∀ (w : World) (os : OsState), (TQ tp (w.withFollow "special-get-raises" true) 20000 (S0 (w.withFollow "special-get-raises" true) os)).map (fun s => List.take 200 (Hook.obs hk.1 s : List (Option Obj))) = some (tk 200 (Hook.val hk.1 (w.withFollow "special-get-raises" true) : List (Option Obj))) := by
 intro w os; kernel_rfl
theorem r1f : ∀ (w : World) (os : OsState), (TQ tp (w.withFollow "special-get-raises" true) 20000 (S0 (w.withFollow "special-get-raises" true) os)).map (fun s => List.drop 200 (Hook.obs hk.1 s : List (Option Obj))) = some (dk 200 (Hook.val hk.1 (w.withFollow "special-get-raises" true) : List (Option Obj))) := by
 intro w os; kernel_rfl
theorem r1 : ∀ (w : World) (os : OsState), (TQ tp (w.withFollow "special-get-raises" true) 20000 (S0 (w.withFollow "special-get-raises" true) os)).map (fun s => (OQ (viewOf tp) lo (importedModules tp.main.body) (Xf tp) true s, Hook.obs hk.1 s)) = some ((openGood (viewOf tp) lo), Hook.val hk.1 (w.withFollow "special-get-raises" true)) := fun w os => opt13 (r1a w os) (r1b w os) (r1c w os) (r1e w os) (r1f w os)
theorem r0a : ∀ (w : World) (os : OsState), (TQ tp (w.withFollow "special-get-raises" false) 20000 (S0 (w.withFollow "special-get-raises" false) os)).map (fun s => ((OQ (viewOf tp) lo (importedModules tp.main.body) (Xf tp) true s).1, (OQ (viewOf tp) lo (importedModules tp.main.body) (Xf tp) true s).2.1, (OQ (viewOf tp) lo (importedModules tp.main.body) (Xf tp) true s).2.2.1)) = some ((fs (openGood (viewOf tp) lo)), (fs (sn (openGood (viewOf tp) lo))), (fs (sn (sn (openGood (viewOf tp) lo))))) := by
 intro w os; kernel_rfl
theorem r0e : ∀ (w : World) (os : OsState), (TQ tp (w.withFollow "special-get-raises" false) 20000 (S0 (w.withFollow "special-get-raises" false) os)).map (fun s => List.take 200 (Hook.obs hk.1 s : List (Option Obj))) = some (tk 200 (Hook.val hk.1 (w.withFollow "special-get-raises" false) : List (Option Obj))) := by
 intro w os; kernel_rfl
theorem r0f : ∀ (w : World) (os : OsState), (TQ tp (w.withFollow "special-get-raises" false) 20000 (S0 (w.withFollow "special-get-raises" false) os)).map (fun s => List.drop 200 (Hook.obs hk.1 s : List (Option Obj))) = some (dk 200 (Hook.val hk.1 (w.withFollow "special-get-raises" false) : List (Option Obj))) := by
 intro w os; kernel_rfl
theorem r0 : ∀ (w : World) (os : OsState), (TQ tp (w.withFollow "special-get-raises" false) 20000 (S0 (w.withFollow "special-get-raises" false) os)).map (fun s => (OQ (viewOf tp) lo (importedModules tp.main.body) (Xf tp) true s, Hook.obs hk.1 s)) = some ((openGood (viewOf tp) lo), Hook.val hk.1 (w.withFollow "special-get-raises" false)) := fun w os => opt13 (r0a w os) (r0b w os) (r0c w os) (r0e w os) (r0f w os)
theorem left_twin {p p' : Program} {F : Program → Program} {X : Program → Shared → Bool} {loose : List Str} {α : Type} {Yf : Shared → α} {Ya : World → α} {N : Nat} {g0 : Bool} (row : String) (ep : p = p') (e : opening p = plainProg p.main.scope.names) (hN : Nat.ble 600 N = true) (f : ∀ s, fenceModules? p s = some s)
  (h0 : ∀ (w : World) (os : OsState), (TQ p' (w.withFollow row false) N (S0 (w.withFollow row false) os)).map (fun s => (OQ (F p') loose (importedModules p'.main.body) (X p') g0 s, Yf s)) = some (openGood (F p') loose, Ya (w.withFollow row false)))
  (h1 : ∀ (w : World) (os : OsState), (TQ p' (w.withFollow row true) N (S0 (w.withFollow row true) os)).map (fun s => (OQ (F p') loose (importedModules p'.main.body) (X p') g0 s, Yf s)) = some (openGood (F p') loose, Ya (w.withFollow row true))) : LeftO p (F p) loose (X p) Yf Ya N g0 := fun w => by
 subst ep
 have key : ∀ b, (openEnds treeTable p (w.withFollow row b) N).map (fun s => (openSeen (F p) loose (importedModules p.main.body) (X p) g0 s, Yf s)) = some (openGood (F p) loose, Ya (w.withFollow row b)) := by
  intro b
  obtain ⟨s, hs, hv⟩ := Option.map_eq_some_iff.mp (boot_open e hN f (w.withFollow row b))
  have es : s = S0 (w.withFollow row b) s.os := by
   cases s
   simp only [Prod.mk.injEq] at hv
   obtain ⟨a1, a2, a3, a4⟩ := hv
   subst a1 a2 a3 a4
   rfl
  unfold openEnds
  rw [hs, es, PySem.W.Fast.te370005188180407882, PySem.W.Fast.te14364793385576792824, PySem.W.Fast.te4187177175401517315]
  cases b
  . exact h0 w s.os
  . exact h1 w s.os
 have e0 := World.withFollow_self w row
 have := key (w.params.followText row)
 rwa [e0] at this
theorem left : LeftO PySem.Challenge.pw_stopglass_k38_told_by_places (viewOf PySem.Challenge.pw_stopglass_k38_told_by_places) lo (Xf PySem.Challenge.pw_stopglass_k38_told_by_places) (Hook.obs hk.1) (Hook.val hk.1) 20000 true :=
 left_twin (p := PySem.Challenge.pw_stopglass_k38_told_by_places) (p' := tp) (F := viewOf) (X := Xf) (loose := lo) (Yf := Hook.obs hk.1) (Ya := Hook.val hk.1) (N := 20000) (g0 := true) "special-get-raises" rfl (by kernel_rfl) (by decide) (fun s => by kernel_rfl) r0 r1
theorem left_of {H : Hook} (e : H = hk.1) : LeftO PySem.Challenge.pw_stopglass_k38_told_by_places (viewOf PySem.Challenge.pw_stopglass_k38_told_by_places) lo (Xf PySem.Challenge.pw_stopglass_k38_told_by_places) (Hook.obs H) (Hook.val H) 20000 true := by subst e; exact left
local macro_rules | `(tactic| o_head $H) => `(tactic| (
 refine holds_open (q := viewOf PySem.Challenge.pw_stopglass_k38_told_by_places) (loose := lo) (Xt := Xf PySem.Challenge.pw_stopglass_k38_told_by_places) (XP := XL (viewOf PySem.Challenge.pw_stopglass_k38_told_by_places) []) (Yf := Hook.obs $H) (Ya := Hook.val $H) (YP := Hook.says $H) (N := 20000) ?hl (Hook.of $H) (Hook.keeps $H) (fun s e => xl_of s (Bool.and_eq_true_iff.mp e).1) XL.keeps (by rfl) (by rfl) (by rfl) (fun s e => recFacts_of (Bool.and_eq_true_iff.mp e).2) (by rfl) (by assumption) (by decide +kernel) ⟨rfl, rfl, rfl, rfl, rfl, by decide +kernel⟩ ?hw ?hc
 (case hl => exact left_of (H := $H) (by kernel_rfl))))
set_option maxHeartbeats 0 in
noncomputable def pk : (G : Prop) ×' (G → PySem.Challenge.rw_stopglass_k38_told_by_places.Holds) := by
 refine' ⟨_, fun h => _⟩
 rotate_left
 w_on; refine holds_law ws fun said => ?_; k_head; (case hw => w_witness2)
 exact h
end Hd
end
open PySem renaming wpAny_bind->HR,wpAny_pure->Ha,wpAny_field->IR,wpAny_holding->IW,wpAny_mono->Il,wpAny_setField_rec->Iu,wpAny_call_entry->Ix,wpAny_loadPart_at->Iz,wpAny_pyIter_list->J0,wpAny_newObj_type->J1,wpAny_pyIter_tuple->J7,wpAny_truthy_bool->JH,wpAny_seqItems->JL,wpAny_Call_Name_kw->JM,wpAny_execs_nil->JO,wpAny_execs_cons->Jb,wpAny_isSubtype_exc->Jd,wpAny_pyIter_enum->Jj,codeAny_mono->Jk,wpAny_typeOf->Jl,wpAny_call->Jp,wpAny_standAt->Jr,wpAny_passesOwn->Js,wpAny_setField->Jz,wpAny_pyNext_list_item->K4,wpAny_attempt->K7,wpAny_isTrue_Compare1->KA,wpAny_pyNext_list_end->KB,codeAny_builtin->KG,wpAny_rule->KI,wpAny_updateSeq_pair->KJ,wpAny_newFunctionEnv_cells->Ka,wpAny_letOwnedTupleGo_enum->Kc,wpAny_onRaise->Kd,wpAny_sequenceKey->Kf,wpAny_Call_method0_late->Ko,wpAny_pyNext_enum_itemD->Kr,wpAny_loadPart->Kv
open List renaming length_map->HS,length_append->HZ,mem_cons->Hh,mem_cons_self->Hj,size_toArray->Hn,map_append->Hq,mem_cons_of_mem->Hv,mem_append_right->Hz,mem_singleton->IC,not_mem_nil->ID,length_take->IE,map_cons->IF,mem_append->IH,length_cons->II,mem_map->IJ,take_add_one->IM,take_length->IP,append_nil->IQ,getElem_mem->IT,foldl_append->IX,flatMap_append->IZ,append_assoc->Ib,take_of_length_le->Ic,mem_append_left->Ik,map_map->Iq,flatten_cons->J2,idxOf_lt_length_of_mem->J3,length_drop->J5,lookup_cons->J6,length_eq_zero_iff->JJ,replicate_succ->JK,nodup_cons->JP,length_replicate->JQ,length_singleton->JR,length_nil->JS,length_range->JY,length_set->Je,foldl_cons->Jf,range_succ->Ju,length_zip->Jv,nodup_append->K2,flatMap_cons->K3,any_cons->K6,all_eq_true->K9,of_mem_zip->KD,forIn_cons->KE,filterMap_cons->KO,map_congr_left->KQ,mem_range->KR,drop_eq_getElem_cons->Kh,any_eq_true->Kl,mem_flatMap->Km,nil_append->Ku,drop_zero->Kw,forIn_nil->Kx,sum_cons->Kz
open Nat renaming le_refl->HY,le_trans->Hu,zero_le->Hw,lt_of_lt_of_le->IB,ne_of_lt->IG,lt_irrefl->Ia,lt_or_ge->Ig,not_lt_zero->Ir,lt_succ_self->Iw,lt_of_le_of_lt->J9,ne_of_gt->JC,le_succ->Ja,le_add_right->Jq,le_of_lt->Jw,zero_add->KH,min_eq_left->KM,mod_two_eq_zero_or_one->Ke,succ_ne_self->Kj,min_eq_right->Kk
open PySem.Heap renaming lt_size->Hm,size_push->Iy
open Bool renaming false_ne_true->Ho,and_eq_true->IN,false_eq_true->JA,eq_iff_iff->JD,or_false->Ky
open PySem.F renaming plainAttrs_list->Ht,slot_list_append->IK,type_list_append->IL,excBase_ValueError->J4,slot_list_extend->JF,type_list_extend->JG,slot_tuple_iterator_next->JV,slot_enumerate_getattribute->Ji,slot_enumerate_next->Jn,slot_list_getattribute->Jy,plainAttrs_dict->K0,slot_dict_get->KC,slot_zip_next->KL,slot_dict_itemiterator_iter->KN,args_tuple_iterator_next_1->KS,slot_dict_setdefault->KU,entry_tuple_iterator_next->KW,attrBase_ValueError->KY,kt_typeCall_dict_1->Kb,args_dict_init_2->Ki,args_dict_get_3->Kp,entry_dict_init->Kq,slot_dict_items->Ks,args_enumerate_next_1->Kt
open PyProof.Rows renaming callWith_type1->Ie,slot_tuple_getitem->Im,bitOr_and->K5
open Int renaming zero_add->Io,eq_ofNat_of_zero_le->Iv,toNat_natCast->JI,emod_lt_of_pos->JN,emod_nonneg->JT,fdiv_eq_ediv_of_nonneg->KZ
open Option renaming bind_some->Jc,isSome_iff_exists->Jx,map_some->KF
open Array renaming length_toList->KP
abbrev HU:=@List.getElem?_eq_getElem
abbrev HV:=@List.getElem?_eq_some_iff
abbrev HW:=@PySem.Heap.get?_push_of_some
abbrev HX:=@if_neg
abbrev He:=@if_pos
abbrev Hf:=@decide_eq_true
abbrev Hk:=@List.getElem?_map
abbrev Hr:=@congrArg
abbrev Hs:=@PySem.Heap.get?_push_size
abbrev IA:=@List.mem_of_getElem?
abbrev IS:=@List.getElem?_append_right
abbrev IU:=@decide_eq_false
abbrev IV:=@List.getElem?_append_left
abbrev Ii:=@List.getD_eq_getElem?_getD
abbrev Ij:=@of_decide_eq_true
abbrev Ip:=@PySem.Heap.get?_update_other
abbrev J8:=@PySem.Heap.get?_update_self
abbrev JB:=@List.getElem?_set_ne
abbrev JE:=@List.getElem?_take_of_lt
abbrev JU:=@List.mem_iff_getElem?
abbrev JW:=@Array.getElem?_eq_some_iff
abbrev JX:=@decide_eq_true_eq
abbrev JZ:=@List.getElem?_eq_none_iff
abbrev Jg:=@List.find?_cons
abbrev Jh:=@List.getElem?_set_self
abbrev Jm:=@List.getElem?_eq_none
abbrev Jo:=@PySem.Heap.get?_none_of_le
abbrev Jt:=@List.getElem?_zip_eq_some
abbrev K1:=@List.getElem?_inj
abbrev Kg:=@beq_iff_eq
abbrev Kn:=@List.getElem?_replicate
local macro_rules | `(tactic| walk_at "f") => `(tactic| (first|exact .inl rfl|exact .inr rfl|assumption))
local macro_rules | `(tactic| walk_at "s") => `(tactic| exact ⟨rfl, rfl, rfl, by decide +kernel, rfl, by decide +kernel, by decide +kernel⟩)

set_option genSizeOf false
set_option bootstrap.genMatcherCode false
set_option compiler.extract_closed false
section
open Lean in
local macro_rules(kind:=Lean.Parser.Command.declaration)|s=>do{let d:=s[1];if s[0].getArgs.any fun x=>!x.getArgs.isEmpty then{Macro.throwUnsupported};let q←`(command|noncomputable def x:=y);let r:Syntax←(match d.getKind with|``Parser.Command.definition=>pure (s.setArg 1 (mkNode ``Parser.Command.theorem #[mkAtom "theorem ",d[1],mkNode ``Parser.Command.declSig #[d[2][0],d[2][1][0]],d[3]]))|``Parser.Command.abbrev=>if d[3][1].isOfKind ``Parser.Term.explicit then Macro.throwUnsupported else pure (mkNode s.getKind #[q.raw[0],mkNode ``Parser.Command.definition #[mkAtom "def ",d[1],d[2],d[3],mkNullNode]])|_=>Macro.throwUnsupported);return r.rewriteBottomUp fun x=>x.setInfo .none}
local macro_rules|`(#[$x,*])=>do{if x.getElems.isEmpty then{return ← `(by decide)};let mut a:Array Lean.Term:= .empty;for e in x.getElems do{let l:=(e.raw.isLit? `num).getD "0";if l.front=='0' then{a:=a.push e}else{for c in(Nat.toDigits 2 l.toNat!).tail do{a:=a.push (← if c=='1' then`(rfl)else`(_))}}};`(⟨$a,*⟩)}
local macro_rules|`(∅)=>`(by lia)
local macro_rules|`(tactic|let#[$x,*]:=$e)=>do{let a←x.getElems.mapM fun|`(_)=>`(rcasesPat|_)|`($i:ident)=>`(rcasesPat|$i:ident)|_=>Lean.Macro.throwUnsupported;`(tactic|obtain⟨$[$a:rcasesPat],*⟩:=$e)}
local macro_rules|`(tactic|show#[$x,*])=>`(tactic|refine#[$x,*])
local macro_rules|`(⇑$x)=>`(some $x)|`(↑$x)=>`(by simpa using $x)|`(↥$x)=>`(.ref $x)
local macro_rules|`($a\$b)=>`(($a).trans $b)|`($a*>$b)=>`(($a).mono $b)|`($a<*$b)=>`(($a).tup $b)
set_option hygiene false in
local macro_rules|`(0x0)=>`(by rfl)|`(0x1)=>`((show aw _ (.builtin "len") (bd K) from bo))|`(0x2)=>`((show am _ (bA K) from bC))|`(0x3)=>`((model X.prog X.w))|`(0x4)=>`((Or.inl rfl))|`(0x5)=>`((λ_ _=>rfl))|`(0x6)=>`((model prog w))|`(0x7)=>`(by decide +kernel)|`(0x8)=>`(by simp)|`(0x9)=>`((λacc kv=>putK acc kv.1 kv.2))|`(0xA)=>`((Str×List Mk))|`(0xB)=>`((Sum.inr f.name:aF))|`(0xC)=>`((List.toArray []))
noncomputable abbrev Hl:=Option
noncomputable abbrev K':=PySem.Value
noncomputable abbrev L5:=PySem.Shared
noncomputable abbrev L6:=PySem.Addr
noncomputable abbrev L7:=PySem.W.Frag
namespace L2
open PySem PySem.Spec PyProof.Rows
noncomputable abbrev aF:=Sum Int Str
abbrev gz:aF->K'->Bool
 | .inl k,v=>Value.isInt k v
 | .inr x,v=>Value.isStrOf x v
abbrev Dy (w:World):aF->Int
 | .inl k=>hashInt k
 | .inr x=>hashStr w x
def g8:∀{k:aF} {v:K'},gz k v=true->(∃i t,k=Sum.inl i/\v=Value.int i t)\/(∃x t,k=Sum.inr x/\v=Value.str x t)
 | .inl i,v,h=>by let#[t,e]:=Value.isInt_shape (k:=i) (v:=v) h;exact .inl #[i,t,rfl,e]
 | .inr x,v,h=>by let#[t,e]:=Value.isStrOf_shape (x:=x) (v:=v) h;exact .inr #[x,t,rfl,e]
def AN (i:Int) (t:Tok):gz (.inl i) (.int i t)=true:=by simp [gz,Value.isInt]
def Fg (x:Str) (t:Tok):gz (.inr x) (.str x t)=true:=by simp [gz,Value.isStrOf]
def By (a b:Int):decide ((Sum.inl a:aF)=Sum.inl b)=(a==b):=by
 by_cases e:a=b
 . subst e; simp
 . have h:¬ (Sum.inl a:aF)=Sum.inl b:=λq=>e (Sum.inl.inj q);rw[IU h];exact(beq_eq_false_iff_ne.mpr e).symm
def HH (a b:Str):decide ((Sum.inr a:aF)=Sum.inr b)=decide (a=b):=by
 by_cases e:a=b
 . subst e; simp
 . have h:¬ (Sum.inr a:aF)=Sum.inr b:=λq=>e (Sum.inr.inj q);rw[IU h,IU e]
def Ce (a:Int) (b:Str):decide ((Sum.inl a:aF)=Sum.inr b)=false:=IU (λq=>nomatch q)
def Bf (a:Str) (b:Int):decide ((Sum.inr a:aF)=Sum.inl b)=false:=IU (λq=>nomatch q)
abbrev br (prog:Program) (w:World):PySem.KeyKind prog w aF where
 is:=gz
 hash:=Dy w
 inj:=λv a b ha hb=>by
   rcases g8 ha with⟨i,t,rfl,rfl⟩|⟨x,t,rfl,rfl⟩
   . rcases g8 hb with⟨j,u,rfl,e⟩|⟨y,u,rfl,e⟩
     . injection e with e1 _; rw[e1]
     . exact nomatch e
   . rcases g8 hb with⟨j,u,rfl,e⟩|⟨y,u,rfl,e⟩
     . exact nomatch e
     . injection e with e1 _; rw[e1]
 byValue:=λk v h=>by rcases g8 h with⟨i,t,rfl,rfl⟩|⟨x,t,rfl,rfl⟩ <;> rfl
 pyHash:=λhv h=>by
   rcases g8 hv with⟨i,t,rfl,rfl⟩|⟨x,t,rfl,rfl⟩
   . exact wpAny_pyHash_int h
   . exact wpAny_pyHash_str h
 eqBool:=λhu hv h=>by
   rcases g8 hu with⟨i,t,rfl,rfl⟩|⟨x,t,rfl,rfl⟩
   . rcases g8 hv with⟨j,u,rfl,rfl⟩|⟨y,u,rfl,rfl⟩
     . rw[By] at h; exact wpAny_eqBool_int h
     . rw[Ce] at h; exact SeqAt.EqAt.int_str i t y u _ _ _ _ h
   . rcases g8 hv with⟨j,u,rfl,rfl⟩|⟨y,u,rfl,rfl⟩
     . rw[Bf] at h; exact SeqAt.EqAt.str_int x t j u _ _ _ _ h
     . rw[HH] at h; exact wpAny_eqBool_str h
 «strs»:=λk x t v h=>by
   rcases g8 h with⟨i,u,rfl,e⟩|⟨y,u,rfl,e⟩
   . exact nomatch e
   . injection e with e1 _
     subst e1;cases v <;> rfl
def GU (prog:Program) (w:World) (i:Int) (t:Tok):(br prog w).is (.inl i) (.int i t)=true:=AN i t
def G0 (prog:Program) (w:World) (x:Str) (t:Tok):(br prog w).is (.inr x) (.str x t)=true:=Fg x t
inductive V where
 | non|bl (b:Bool)|int (i:Int)|str (x:Str)|byt (b:Array UInt8)|flt (b:UInt64)|ref (a:Addr)|ty (n:String)
 deriving DecidableEq
abbrev aX:V->K'->Prop
 | .non,u=>u=Value.none
 | .bl b,u=>u=Value.bool b
 | .int i,u=>∃t,u=Value.int i t
 | .str x,u=>∃t,u=Value.str x t
 | .byt b,u=>∃t,u=Value.bytes b t
 | .flt b,u=>∃t,u=Value.float b t
 | .ref a,u=>u=Value.ref a
 | .ty n,u=>u=Value.type n
noncomputable abbrev aU:List V->List K'->Prop:=Paired aX
def aU.length {xs:List V} {us:List K'} (r:aU xs us):xs.length=us.length:=Paired.length r
def aU.get:∀{xs:List V} {us:List K'} {i:Nat} {x:V},aU xs us->xs[i]?=⇑x->∃u,us[i]?=⇑u/\aX x u:=by
 intro xs us i x h e
 induction h generalizing i with
 | nil=>simp at e
 | cons r t ih =>
   cases i with
   | zero=>simp at e; subst e; show#[5,r]
   | succ i =>
     let#[u,h1,h2]:=ih (i:=i) ↑e;show#[u,by simpa using h1,h2]
variable {u:K'}
def aU.set {x:V} (r:aX x u):∀{xs:List V} {us:List K'} (i:Nat),aU xs us->aU (xs.set i x) (us.set i u):=by
 intro xs us i h
 induction h generalizing i with
 | nil=>exact .nil
 | cons q t ih =>
   cases i with
   | zero=>exact .cons r t
   | succ i=>exact .cons q (ih i)
def aU.append:∀{xs ys:List V} {us ws:List K'},aU xs us->aU ys ws->aU (xs++ys) (us++ws):=by
 intro xs ys us ws h s
 induction h with
 | nil=>exact s
 | cons r t ih=>exact .cons r ih
def aU.take:∀{xs:List V} {us:List K'} (n:Nat),aU xs us->aU (xs.take n) (us.take n)
 | _,_,0,_=>.nil
 | _,_,_+1,.nil=>.nil
 | _,_,n+1,.cons r t=>.cons r (aU.take n t)
def aU.drop:∀{xs:List V} {us:List K'} (n:Nat),aU xs us->aU (xs.drop n) (us.drop n)
 | _,_,0,r=>r
 | _,_,_+1,.nil=>.nil
 | _,_,n+1,.cons _ t=>aU.drop n t
def aU.none_of:∀{xs:List V} {us:List K'} {i:Nat},aU xs us->xs[i]?=none->us[i]?=none:=λ{xs us i} r e=>by have h1:=r.length;have h2:xs.length<=i:=JZ.mp e;exact JZ.mpr ∅
abbrev d8:Hl V->Hl K'->Prop
 | some v,⇑u=>aX v u
 | none,none=>True
 | _,_=>False
abbrev KV {κ:Type}:List (κ×V)->List (κ×K')->Prop:=Paired λ(p:κ×V) (q:κ×K')=>p.1=q.1/\aX p.2 q.2
abbrev kV:aF->V
 | .inl i=>.int i
 | .inr x=>.str x
inductive HO where
 | lst (xs:List V)
 | tup (xs:List V)
 | dK (kvs:List (aF×V))|dT (kvs:List (List aF×V))
 | set (S:Int->Bool) (n:Nat)
 | ins (C dx:Addr) (fs:List (Str×V))
 | own (x:Addr)
 | xd (fs:List (Str×V))
 | met (f x:Addr)
 | rng (lo hi:Int)
 | frz (o:Obj) (u:HO)
 | tbl (ps:Array Value)
 | ext (φ:Heap->Prop)
noncomputable abbrev Hp:=L6->Hl HO
abbrev upd (H:Hp) (a:L6) (o:HO):Hp:=λb=>if b=a then ⇑o else H b
variable {H:Hp} {a:L6}
def aI {o:HO}:upd H a o a=⇑o:=by unfold upd; rw[He rfl]
def aM {b:L6}{o:HO} (h:b≠a):upd H a o b=H b:=by unfold upd; rw[HX h]
def et {o u:HO}:upd (upd H a o) a u=upd H a u:=by funext b; unfold upd; split <;> rfl
def iD {b:L6}{o u:HO} (h:H a=⇑o) (h':H b=⇑u) (d:o≠u):a≠b:=by intro e; subst e; rw[h] at h'; exact d (Option.some.inj h')
def cR {b:L6}{o:HO} (h:H a=⇑o) (h':H b=none):a≠b:=by intro e; subst e; rw[h] at h'; cases h'
section
variable (P:Program) (w:World)
abbrev bX (H:Hp) (h:Heap) (a:L6):HO->Prop
 | .lst xs=>xs.length<=sizeLine/\∃(its:List K') (n:Nat),aU xs its/\h.get? a=some { cls:=.type "list",data:=.seq its.toArray n }
 | .tup xs=>xs.length<=sizeLine/\∃its:List K',aU xs its/\IsTup h a its.toArray
 | .dK kvs=>kvs.length<=sizeLine/\(a==sysModules)=false/\∃vs,KV kvs vs/\h.DictOf (br P w) a vs
 | .dT kvs=>kvs.length<=sizeLine/\(a==sysModules)=false/\∃xs:List (List aF×L6×K'),
     Paired (λ(p:List aF×V) (q:List aF×L6×K')=>p.1=q.1/\H q.2.1=⇑(.tup (p.1.map kV))/\aX p.2 q.2.2) kvs xs /\
     ∃o es ep,h.get? a=⇑o/\o.ExactDict/\o.data=.dict es ep/\es.toList=xs.map (entryOfKey (tupleKind (br P w)))/\(xs.map (·.1)).Nodup
 | .set S n=>h.SetOf (intKind P w) a S n
 | .ins C dx fs=>H dx=⇑(.own a)/\fs.length<=1000/\dx≠a/\h.get? a=⇑(PySem.W.instObj C dx) /\
     ∃mA,h.Ns1 dx mA/\(∀f,d8 (fs.lookup f) (mA f))/\PySem.Within mA (fs.map (·.1))
 | .own _=>∃o,h.get? a=⇑o
 | .xd fs=>∃mA,h.Ns1 a mA/\∀f,d8 (fs.lookup f) (mA f)
 | .rng lo hi=>∃t u v,h.get? a=some { cls:=.type "range",data:=.fields (List.toArray [.int lo t,.int hi u,.int 1 v]) }
 | .frz o u=>h.get? a=⇑o/\bX H h a u
 | .tbl ps=>h.get? a=some { cls:=.none,data:=.fields ps }
 | .met f x=>h.get? a=⇑(PySem.W.methodObj ↥f ↥x)
 | .ext φ=>φ h/\(∃o,h.get? a=⇑o)/\∀h1 h2:Heap,φ h1->(∀o,h1.get? a=⇑o->h2.get? a=⇑o)->φ h2
abbrev bE (H:Hp) (h:Heap):Prop:=∀a o,H a=⇑o->bX P w H h a o
end
section
variable {P:Program} {w:World} {H H':Hp} {h h':Heap} {a:L6} {o:HO}
def bX.lt (x:bX P w H h a o):a<h.objs.size:=by
 cases o with
 | lst xs=>let#[_,_,_,_,e]:=x; exact Hm e
 | tup xs=>let#[_,_,_,p]:=x; exact p.lt
 | dK kvs=>let#[_,_,_,_,o,_,_,e,_]:=x; exact Hm e
 | dT kvs=>let#[_,_,_,_,o,_,_,e,_]:=x; exact Hm e
 | set S n=>let#[o,_,_,_,e,_]:=x; exact Hm e
 | ins C dx fs=>let#[_,_,_,e,_]:=x; exact Hm e
 | own y=>let#[_,e]:=x; exact Hm e
 | xd fs=>obtain⟨_,⟨_,_,_,e,_⟩,_⟩:=x; exact Hm e
 | rng lo hi=>let#[_,_,_,e]:=x; exact Hm e
 | frz ob u=>let#[e,_]:=x; exact Hm e
 | tbl ps=>exact Hm (show h.get? a=⇑_ from x)
 | met f y=>exact Hm (show h.get? a=⇑_ from x)
 | ext φ=>obtain⟨_,⟨_,e⟩,_⟩:=x; exact Hm e
def Paired.mapP {α β:Type} {F G:α->β->Prop}:∀{l₁:List α} {l₂:List β},Paired F l₁ l₂->(∀a b,F a b->G a b)->Paired G l₁ l₂:=by
 intro l₁ l₂ h f
 induction h with
 | nil=>exact .nil
 | cons r t ih=>exact .cons (f _ _ r) ih
def bX.stay (x:bX P w H h a o) (k:∀b u,(b=a\/H b=⇑(.own a))->h.get? b=⇑u->h'.get? b=⇑u)
   (ho:∀b,H b=⇑(.own a)->H' b=⇑(.own a)) (ht:∀b xs,H b=⇑(.tup xs)->H' b=⇑(.tup xs)):bX P w H' h' a o:=by
 induction o with
 | lst xs=>let#[z,its,n,r,e]:=x; show#[z,its,n,r,k _ _ (.inl rfl) e]
 | tup xs=>let#[z,its,r,ob,e,c]:=x; show#[z,its,r,ob,k _ _ (.inl rfl) e,c]
 | dK kvs=>let#[z,y,vs,r,ob,es,ep,e,c]:=x; show#[z,y,vs,r,ob,es,ep,k _ _ (.inl rfl) e,c]
 | dT kvs =>
   let#[z,y,xs,r,ob,es,ep,e,c]:=x;show#[z,y,xs,Paired.mapP r λp q z=>#[z.1,ht _ _ z.2.1,z.2.2],ob,es,ep,k _ _ (.inl rfl) e,c]
 | set S n=>let#[ob,es,ep,t,e,c]:=x; show#[ob,es,ep,t,k _ _ (.inl rfl) e,c]
 | ins C dx fs =>
   obtain⟨d,z,ne,e,mA,⟨od,es,ep,e2,c⟩,r⟩:=x;show#[ho _ d,z,ne,k _ _ (.inl rfl) e,mA,#[od,es,ep,k _ _ (.inr d) e2,c],r]
 | own y=>let#[ob,e]:=x; show#[ob,k _ _ (.inl rfl) e]
 | xd fs=>obtain⟨mA,⟨od,es,ep,e,c⟩,r⟩:=x; show#[mA,#[od,es,ep,k _ _ (.inl rfl) e,c],r]
 | rng lo hi=>let#[t,u,v,e]:=x; show#[t,u,v,k _ _ (.inl rfl) e]
 | frz ob u ih=>let#[e,q]:=x; show#[k _ _ (.inl rfl) e,ih q]
 | tbl ps =>
   have e:h.get? a=some { cls:=.none,data:=.fields ps }:=x;show h'.get? a=some { cls:=.none,data:=.fields ps };exact k a _ (.inl rfl) e
 | met f y =>
   have e:h.get? a=⇑(PySem.W.methodObj ↥f ↥y):=x;show h'.get? a=⇑(PySem.W.methodObj ↥f ↥y);exact k a _ (.inl rfl) e
 | ext φ=>obtain⟨p,⟨o,e⟩,st⟩:=x; show#[st _ _ p λo q=>k _ _ (.inl rfl) q,#[o,k _ _ (.inl rfl) e],st]
def bE.lt (x:bE P w H h) (e:H a=⇑o):a<h.objs.size:=(x a o e).lt
def bE.fresh (x:bE P w H h) (e:h.objs.size<=a):H a=none:=by
 cases q:H a with
 | none=>rfl
 | some u=>exact absurd (IB (x.lt q) e) (Ia _)
def bE.kept (x:bE P w H h) (k:∀b u,h.get? b=⇑u->h'.get? b=⇑u):bE P w H h':=λa o e =>
 (x a o e).stay (λb u _ q=>k b u q) (λ_ q=>q) λ_ _ q=>q
def bE.laid (x:bE P w H h) (k:∀b u,h.get? b=⇑u->h'.get? b=⇑u) (hp:h.objs.size<=a) (new:bX P w (upd H a o) h' a o):bE P w (upd H a o) h':=λb u e=>by
 have hn:=x.fresh hp;by_cases hb:b=a
 . subst hb; rw[aI] at e; cases e; exact new
 . rw[aM hb] at e;exact(x b u e).stay (λc v _ q=>k c v q) (λc q=>by rw[aM (cR q hn)]; exact q) λc xs q=>by rw[aM (cR q hn)]; exact q
end
abbrev Rd (H:Hp) (a:L6) (u:HO):Prop:=H a=⇑u\/∃o,H a=⇑(.frz o u)
def Rd.of {u:HO} (h:H a=⇑u):Rd H a u:=.inl h
variable {P:Program} {w:World} {h:Heap}
def Rd.ok {u:HO} (r:Rd H a u) (x:bE P w H h):bX P w H h a u:=by
 rcases r with r|⟨o,r⟩
 . exact x a u r
 . let#[_,q]:=x a _ r;exact q
abbrev kg:Hl HO->Prop
 | some (.lst _)=>True
 | some (.dK _)=>True
 | some (.dT _)=>True
 | some (.set _ _)=>True
 | some (.ins _ _ _)=>True
 | some (.ext _)=>True
 | _=>False
section
variable {P:Program} {w:World} {H:Hp} {h h':Heap} {x e:L6} {o':HO}
def bE.write (ok:bE P w H h) (mu:kg (H x)) (he:e=x\/H e=⇑(.own x)) (k:∀b u,b≠e->h.get? b=⇑u->h'.get? b=⇑u) (heo:∃u,h'.get? e=⇑u)
   (new:bX P w (upd H x o') h' x o'):bE P w (upd H x o') h':=λb u q=>by
 have nown:∀c y,H c=⇑(.own y)->c≠x:=λc y r z=>by subst z; rw[r] at mu; exact mu
 have ntup:∀c xs,H c=⇑(.tup xs)->c≠x:=λc xs r z=>by subst z; rw[r] at mu; exact mu
 by_cases hb:b=x
 . subst hb; rw[aI] at q; cases q; exact new
 . rw[aM hb] at q;by_cases hbe:b=e
   . have q':H b=⇑(.own x):=by
       rcases he with z|z
       . exact absurd (hbe\z) hb
       . rw[hbe]; exact z
     rw[q] at q'; cases q';let#[v,hv]:=heo;show#[v,by rw[hbe]; exact hv]
   . refine(ok b u q).stay (λc v hc r=>k c v ?_ r) (λc r=>by rw[aM (nown c b r)]; exact r) λc xs r=>by rw[aM (ntup c xs r)]; exact r
     rcases hc with rfl|hc
     . exact hbe
     . rintro rfl;rcases he with z|z
       . exact nown c b hc z
       . rw[hc] at z; cases z; exact hb rfl
end
structure Un (fs ex:List Addr) (H H':Hp) (h h':Heap):Prop where
 keep:∀b o,h.get? b=⇑o->H b=none->b ∉ fs->b ∉ ex->h'.get? b=⇑o
 slot:∀b o,h.get? b=⇑o->H b=none->b∈fs->b ∉ ex->∃sl,h'.get? b=some { o with slots:=sl }
 free:∀b o,h.get? b=⇑o->H b=none->b ∉ ex->H' b=none
 there:∀b o,h.get? b=⇑o->b ∉ ex->∃o',h'.get? b=⇑o'
 tups:∀b xs,H b=⇑(.tup xs)->H' b=⇑(.tup xs)
 frzs:∀b o u,H b=⇑(.frz o u)->H' b=⇑(.frz o u)
 tbls:∀b ps,H b=⇑(.tbl ps)->∃more,H' b=⇑(.tbl (ps++more))
section
variable {fs fs' ex ex':List L6} {H H1 H2:Hp} {h h1 h2 h':Heap} {a x e:L6} {o:HO}
def Un.any (u:Un fs ex H H1 h h1) {b:L6} {ob:Obj} (q:h.get? b=⇑ob) (n:H b=none) (hx:b ∉ ex):∃sl,h1.get? b=some { ob with slots:=sl }:=by
 by_cases hb:b∈fs
 . exact u.slot b ob q n hb hx
 . show#[ob.slots,u.keep b ob q n hb hx]
def Un.kept (k:∀b u,h.get? b=⇑u->h'.get? b=⇑u):Un fs ex H H h h' :=
 #[λb ob q _ _ _=>k b ob q,λb ob q _ _ _=>#[ob.slots,k b ob q],λ_ _ _ n _=>n,λb ob q _=>#[ob,k b ob q],λ_ _ q=>q,λ_ _ _ q=>q,λ_ ps q=>#[0xC,by rw[q]; simp]]
def Un.refl:Un fs ex H H h h:=Un.kept λ_ _ q=>q
def Un.laid (k:∀b u,h.get? b=⇑u->h'.get? b=⇑u) (hp:h.objs.size<=a) (hn:H a=none):Un fs ex H (upd H a o) h h' where
 keep:=λb u q _ _ _=>k b u q
 slot:=λb u q _ _ _=>#[u.slots,k b u q]
 free:=λb u q n _=>by rw[aM (IG (IB (Hm q) hp))]; exact n
 there:=λb u q _=>#[u,k b u q]
 tups:=λb xs q=>by rw[aM (cR q hn)]; exact q
 frzs:=λb u xs q=>by rw[aM (cR q hn)]; exact q
 tbls:=λb ps q=>#[0xC,by rw[aM (cR q hn),q]; simp]
def Un.write (mu:kg (H x)) (he:e=x\/H e=⇑(.own x)) (k:∀b u,b≠e->h.get? b=⇑u->h'.get? b=⇑u) (heo:∃u,h'.get? e=⇑u):Un fs ex H (upd H x o) h h':=by
 have hx:∀b,H b=none->b≠x:=λb n z=>by subst z; rw[n] at mu; exact mu
 have hb:∀b,H b=none->b≠e:=λb n z=>by
   subst z;rcases he with r|r
   . exact hx b n r
   . rw[n] at r; cases r
 have hm:∀b u,H b=⇑u->¬ kg ⇑u->b≠x:=λb u q nm z=>by subst z; rw[q] at mu; exact nm mu
 show#[λb u q n _ _=>k b u (hb b n) q,λb u q n _ _=>#[u.slots,k b u (hb b n) q],λb u q n _=>by rw[aM (hx b n)]; exact n,λb u q _=>?_,
   λb xs q=>by rw[aM (hm b _ q λz=>z)]; exact q,λb u xs q=>by rw[aM (hm b _ q λz=>z)]; exact q,λb ps q=>#[0xC,by rw[aM (hm b _ q λz=>z),q]; simp]]
 by_cases hbe:b=e
 . subst hbe; exact heo
 . show#[u,k b u hbe q]
end
abbrev mK (h:Heap) (H:Hp):List L6:=(List.range h.objs.size).filter λa=>(H a).isSome
abbrev gI (h:Heap) (H:Hp):Heap:=PySem.W.hideAll h (mK h H)
def Gs (h:Heap) (H:Hp):(gI h H).objs.size=h.objs.size:=PySem.W.hideAll_size _ _
def Ee {b:L6} {o:Obj} (e:h.get? b=⇑o) (n:H b=none):(gI h H).get? b=⇑o :=
 PySem.W.hideAll_get _ e λhm=>by have q:(H b).isSome=true:=(List.mem_filter.mp hm).2;rw[n] at q; simp at q
def F4 {b:L6} {o:Obj} (e:(gI h H).get? b=⇑o):h.get? b=⇑o/\H b=none:=by
 have e':h.get? b=⇑o:=PySem.W.of_hideAll (mK h H) e;show#[e',?_];cases q:H b with
 | none=>rfl
 | some x =>
   have hm:b∈mK h H:=List.mem_filter.mpr #[KR.mpr (Hm e'),by simp [q]];have z:(gI h H).get? b=none:=PySem.W.hideAll_none (mK h H) hm;rw[z] at e; cases e
structure Mod (K:W.Frag) (mg:Str->Option Value) (base:Heap):Prop where
 kin:K.In base
 glob:base.Ns mainGlobals mg
 blt:∃mb,base.Ns builtinsNs mb/\∀x:Str,x≠"__name__"->mb x=bootBuiltins x
 nolimit:base.NoLimit
structure Cx where
 prog:Program
 w:World
 K:W.Frag
 mg:Str->Option Value
 base:Heap
 A:Around
 N:List Str
 s₀:Shared
 H₀:Hp
 env:Env
 outer:List Env
 stack:List Env
 ex:List Addr
 fn:Str->Bool
 calm:Bool
 pn:List (Addr×Obj)
 xe:Value->Shared->Prop
abbrev cJ (l:List Env):List L6:=l.filterMap (·.frame)
noncomputable abbrev Cx.fs (X:Cx):List L6:=cJ X.outer
abbrev jp (sc:Scope) (x:Str):Prop:=sc.names.lookup x=some .local\/sc.names.lookup x=some .cell\/sc.names.lookup x=some .free
abbrev iz (sc:Scope) (x:Str):Prop:=sc.names.lookup x=some .local\/sc.names.lookup x=some .cell
abbrev vi (env:Env) (h:Heap) (m:Str->Hl K') (x:Str) (u:K'):Prop :=
 (env.kindOf x=some .local/\m x=⇑u)\/((env.kindOf x=some .cell\/env.kindOf x=some .free)/\∃c,env.cells.lookup x=⇑c/\h.IsCell c ⇑u)
structure Cx.Ok (X:Cx):Prop where
 mod:Mod X.K X.mg X.base
 kind:X.env.scope.kind=.function
 glob:X.env.globals=mainGlobals
 blt:X.env.builtins=builtinsNs
 above:X.s₀.heap.objs.size<=X.env.locals
 inj:∀x y c,X.env.cells.lookup x=⇑c->X.env.cells.lookup y=⇑c->x=y
 has:∀x,(X.env.kindOf x=some .cell\/X.env.kindOf x=some .free)->∃c,X.env.cells.lookup x=⇑c
 cab:∀x c,X.fn x=true->X.env.cells.lookup x=⇑c->X.s₀.heap.objs.size<=c
 hd:X.calm=true->X.A.handled=none
 frames:X.A.frames=⇑X.stack
 stk:X.stack=X.outer\/(X.stack=X.env::X.outer/\X.env.frame=⇑X.env.locals)
 exf:∀b∈X.ex,b≠X.env.locals/\∀x c,X.env.cells.lookup x=⇑c->c≠b
 bs:∀b o,X.base.get? b=⇑o->X.s₀.heap.get? b=⇑o/\X.H₀ b=none
 bsz:X.base.objs.size<=X.s₀.heap.objs.size
 noex:∀b o,X.base.get? b=⇑o->b ∉ X.ex
 exfs:∀b∈X.ex,b ∉ X.fs
 funs:X.s₀.heap.FunFrames X.base X.outer
 frf:∀b∈X.fs,X.H₀ b=none
structure Inv (X:Cx) (pins:List (Addr×Obj)) (σ:List (Option V)) (H:Hp) (s:Shared):Prop where
 ok:X.Ok
 os:s.os=X.s₀.os
 bare:AllBare s.gens
 base:Un X.fs X.ex X.H₀ H X.s₀.heap s.heap
 loc:∃m,s.heap.Ns X.env.locals m/\∀(i:Nat) (x:Str) (v:V),X.N[i]?=⇑x->σ[i]?=⇑⇑v->jp X.env.scope x->∃u,aX v u/\vi X.env s.heap m x u
 cell:∀x c,X.env.cells.lookup x=⇑c->∃v,s.heap.IsCell c v
 free:H X.env.locals=none
 freeC:∀x c,X.env.cells.lookup x=⇑c->H c=none
 pin:∀p∈X.pn++pins,s.heap.get? p.1=⇑p.2/\H p.1=none/\p.1≠X.env.locals/\p.1 ∉ X.fs/\∀v,p.2.data≠.cell v
 hok:bE X.prog X.w H s.heap
 len:σ.length=X.N.length
variable {x:Str} {t' i:Nat} {M:Model} {E:K'->L5->Prop} {v:V}
section
variable {X:Cx} {pins:List (L6×Obj)} {σ:List (Hl V)} {H H':Hp} {s:L5} {h':Heap}
def Cx.Ok.nofr (ok:X.Ok) {b:L6} {o:Obj} (e:X.base.get? b=⇑o):b ∉ X.fs:=λhb=>by have:=(ok.funs.mem hb).1;rw[e] at this; cases this
def Inv.bs (I:Inv X pins σ H s):∀b o,X.base.get? b=⇑o->s.heap.get? b=⇑o/\H b=none:=λb o e =>
 #[I.base.keep b o (I.ok.bs b o e).1 (I.ok.bs b o e).2 (I.ok.nofr e) (I.ok.noex b o e),I.base.free b o (I.ok.bs b o e).1 (I.ok.bs b o e).2 (I.ok.noex b o e)]
def Inv.bk (I:Inv X pins σ H s):∀b o,X.base.get? b=⇑o->s.heap.get? b=⇑o:=λb o e=>(I.bs b o e).1
def Inv.mod (I:Inv X pins σ H s):Mod X.K X.mg X.base:=I.ok.mod
def Inv.kIn (I:Inv X pins σ H s):X.K.In s.heap:=I.ok.mod.kin.keeps I.bk
def Inv.lt (I:Inv X pins σ H s):X.env.locals<s.heap.objs.size:=by let#[_,hn,_]:=I.loc; exact hn.lt
def Inv.sz (I:Inv X pins σ H s):X.s₀.heap.objs.size<=s.heap.objs.size:=Hu I.ok.above (Jw I.lt)
def Inv.nofs (I:Inv X pins σ H s) (h:s.heap.objs.size<=a):a ∉ X.fs:=λhb=>by let#[_,o,ho,_]:=I.ok.funs.mem hb;exact absurd (IB (Hm ho) (Hu I.sz h)) (Ia _)
def Inv.cne (I:Inv X pins σ H s):∀x c,X.env.cells.lookup x=⇑c->c≠X.env.locals:=λx c e z=>by let#[v,o,ho,hd]:=I.cell x c e;obtain⟨m,⟨o',es,ep,ho',hd',_⟩,_⟩:=I.loc;rw[z,ho'] at ho; cases ho; rw[hd'] at hd; cases hd
def Inv.funs (I:Inv X pins σ H s):s.heap.FunFrames X.base X.outer:=by
 have all:∀(l:List Env),(∀b∈cJ l,b∈X.fs)->X.s₀.heap.FunFrames X.base l->s.heap.FunFrames X.base l:=by
   intro l
   induction l with
   | nil=>intro _ _; trivial
   | cons env r ih =>
     intro hs hl;obtain⟨hk,⟨L,o,hf,hn,ho,hd⟩,hr⟩:=hl;have hL:L∈X.fs:=hs L (by unfold cJ; rw[KO,hf]; exact Hj);let#[sl,e]:=I.base.slot L o ho (I.ok.frf L hL) hL λz=>I.ok.exfs L z hL;show#[hk,#[L,_,hf,hn,e,hd],ih (λb hb=>hs b (by unfold cJ; rw[KO,hf]; exact Hv _ hb)) hr]
 exact all X.outer (λ_ hb=>hb) I.ok.funs
def Inv.stack (I:Inv X pins σ H s):s.heap.FunFrames X.base X.stack:=by
 rcases I.ok.stk with e|⟨e,hf⟩
 . rw[e]; exact I.funs
 . rw[e];let#[m,hn,_]:=I.loc;refine .cons (by rw[I.ok.kind]; decide) hf hn ?_ I.funs;exact Jo (Hu I.ok.bsz I.ok.above)
def Inv.stkSub (I:Inv X pins σ H s):∀b∈cJ X.stack,b∈X.env.locals::X.fs:=λb hb=>by
 rcases I.ok.stk with e|⟨e,hf⟩
 . rw[e] at hb; exact Hv _ hb
 . rw[e] at hb;unfold cJ at hb;rw[KO,hf] at hb;exact hb
def Inv.stkFree (I:Inv X pins σ H s):∀b∈cJ X.stack,H b=none:=λb hb=>by
 rcases Hh.mp (I.stkSub b hb) with e|hb
 . rw[e]; exact I.free
 . let#[_,o,ho,_]:=I.ok.funs.mem hb;exact I.base.free b o ho (I.ok.frf b hb) λz=>I.ok.exfs b z hb
def Inv.step {g':Array GenState} {d':Drawn} {ch:List L6} (I:Inv X pins σ H s)
   (hch:∀b∈ch,(b∈X.ex\/X.s₀.heap.objs.size<=b)/\b≠X.env.locals/\(∀x c,X.env.cells.lookup x=⇑c->c≠b)/\∀p∈X.pn++pins,p.1≠b)
   (keep:∀b o,b≠X.env.locals->b ∉ X.fs->b ∉ ch->s.heap.get? b=⇑o->H b=none->h'.get? b=⇑o)
   (slot:∀b o,b≠X.env.locals->b∈X.fs->b ∉ ch->s.heap.get? b=⇑o->H b=none->∃sl,h'.get? b=some { o with slots:=sl }) (free:∀b o,b ∉ ch->s.heap.get? b=⇑o->H b=none->H' b=none)
   (there:∀b o,b ∉ ch->s.heap.get? b=⇑o->∃o',h'.get? b=⇑o')
   (tups:∀b xs,H b=⇑(.tup xs)->H' b=⇑(.tup xs)) (frzs:∀b o u,H b=⇑(.frz o u)->H' b=⇑(.frz o u)) (tbls:∀b ps,H b=⇑(.tbl ps)->∃more,H' b=⇑(.tbl (ps++more)))
   (ns:∀m,s.heap.Ns X.env.locals m->h'.Ns X.env.locals m) (hok:bE X.prog X.w H' h') (hg:AllBare g') :
   Inv X pins σ H' { s with heap:=h',gens:=g',drawn:=d',toks:=t' }:=by
 have neL:∀b o,X.s₀.heap.get? b=⇑o->b≠X.env.locals:=λb o e=>IG (IB (Hm e) I.ok.above);have neC:∀b o,X.s₀.heap.get? b=⇑o->b ∉ X.ex->b ∉ ch:=λb o e hx hb=>by
   rcases (hch b hb).1 with z|z
   . exact hx z
   . exact absurd (IB (Hm e) z) (Ia _)
 have cellK:∀x c,X.env.cells.lookup x=⇑c->∀v,s.heap.IsCell c v->h'.IsCell c v:=λx c e v ⟨o,ho,hd⟩=>by
   have nch:c ∉ ch:=λz=>(hch c z).2.2.1 x c e rfl;by_cases hc:c∈X.fs
   . let#[sl,q]:=slot c o (I.cne x c e) hc nch ho (I.freeC x c e);show#[_,q,hd]
   . show#[o,keep c o (I.cne x c e) hc nch ho (I.freeC x c e),hd]
 show#[I.ok,I.os,hg,#[λb o e n hb hx=>?_,λb o e n hb hx=>?_,λb o e n hx=>?_,λb o e hx=>?_,λb xs e=>tups b xs (I.base.tups b xs e),λb o xs e=>frzs b o xs (I.base.frzs b o xs e),λb ps e=>?_],?_,λx c e=>?_,?_,λx c e=>?_,λp hp=>?_,hok,I.len]
 . exact keep b o (neL b o e) hb (neC b o e hx) (I.base.keep b o e n hb hx) (I.base.free b o e n hx)
 . let#[sl,e1]:=I.base.slot b o e n hb hx;let#[sl',e2]:=slot b _ (neL b o e) hb (neC b o e hx) e1 (I.base.free b o e n hx);show#[sl',e2]
 . let#[o',e1]:=I.base.there b o e hx;exact free b o' (neC b o e hx) e1 (I.base.free b o e n hx)
 . let#[o',e1]:=I.base.there b o e hx;exact there b o' (neC b o e hx) e1
 . let#[m1,e1]:=I.base.tbls b ps e;let#[m2,e2]:=tbls b _ e1;show#[m1++m2,by rw[e2,Array.append_assoc]]
 . let#[m,hn,hl]:=I.loc;show#[m,ns m hn,λi x v e1 e2 e3=>?_];let#[u,r,l]:=hl i x v e1 e2 e3;show#[u,r,?_];rcases l with l|⟨k,c,e,z⟩
   . exact .inl l
   . exact .inr #[k,c,e,cellK x c e _ z]
 . let#[v,z]:=I.cell x c e;show#[v,cellK x c e v z]
 . obtain⟨m,⟨o,_,_,ho,_⟩,_⟩:=I.loc;exact free _ o (λz=>(hch _ z).2.1 rfl) ho I.free
 . let#[v,o,ho,hd]:=I.cell x c e;exact free c o (λz=>(hch c z).2.2.1 x c e rfl) ho (I.freeC x c e)
 . let#[e,n,ne,nf,d]:=I.pin p hp;have nch:p.1 ∉ ch:=λz=>(hch p.1 z).2.2.2 p hp rfl;show#[keep p.1 p.2 ne nf nch e n,free p.1 p.2 nch e n,ne,nf,d]
def Inv.un (I:Inv X pins σ H s) (u:Un X.fs [] H H' s.heap h') (hok:bE X.prog X.w H' h'):Inv X pins σ H' { s with heap:=h',toks:=t' }:=by
 obtain⟨m,⟨o,es,ep,ho,r⟩,_⟩:=id I.loc;let#[sl,hL]:=u.any ho I.free 0x8;exact I.step (g':=s.gens) (d':=s.drawn) (ch:=[]) (λ_ z=>nomatch z) (λb o _ hb _ e n=>u.keep b o e n hb 0x8) (λb o _ hb _ e n=>u.slot b o e n hb 0x8) (λb o _ e n=>u.free b o e n 0x8) (λb o _ e=>u.there b o e 0x8) u.tups u.frzs u.tbls (λm' hm=>by let#[o',es',ep',ho',r']:=hm;rw[ho] at ho'; cases ho';show#[_,es',ep',hL,r']) hok I.bare
def Inv.call {g':Array GenState} {d':Drawn} {ch:List L6} (I:Inv X pins σ H s) (u:Un (cJ X.stack) ch H H' s.heap h') (hok:bE X.prog X.w H' h') (hg:AllBare g')
   (hch:∀b∈ch,(b∈X.ex\/X.s₀.heap.objs.size<=b)/\b≠X.env.locals/\(∀x c,X.env.cells.lookup x=⇑c->c≠b)/\∀p∈X.pn++pins,p.1≠b) :
   Inv X pins σ H' { s with heap:=h',gens:=g',drawn:=d',toks:=t' }:=by
 obtain⟨m,⟨o,es,ep,ho,r⟩,_⟩:=id I.loc;let#[sl,hL]:=u.any ho I.free λz=>(hch _ z).2.1 rfl;exact I.step (ch:=ch) hch (λb o hL hb hc e n=>u.keep b o e n (λz=>(Hh.mp (I.stkSub b z)).elim hL hb) hc) (λb o _ _ hc e n=>u.any e n hc) (λb o hc e n=>u.free b o e n hc) (λb o hc e=>u.there b o e hc) u.tups u.frzs u.tbls (λm' hm=>by let#[o',es',ep',ho',r']:=hm;rw[ho] at ho'; cases ho';show#[_,es',ep',hL,r']) hok hg
def Inv.turned {it:L6} (I:Inv X pins σ H s) (k:∀b o,b≠it->s.heap.get? b=⇑o->h'.get? b=⇑o) (hn:H it=none) (hL:it≠X.env.locals)
   (h1:it∈X.ex\/X.s₀.heap.objs.size<=it) (h2:∀x c,X.env.cells.lookup x=⇑c->c≠it) (h3:∀p∈X.pn++pins,p.1≠it):Inv X pins σ H { s with heap:=h',toks:=t' }:=by
 have nit:∀b u,H b=⇑u->b≠it:=λb u e z=>by rw[z,hn] at e; cases e
 refine I.step (g':=s.gens) (d':=s.drawn) (ch:=[it]) (λb hb=>?_) (λb o _ _ hc e _=>k b o (λz=>hc (by simp [z])) e) (λb o _ _ hc e _=>#[o.slots,k b o (λz=>hc (by simp [z])) e]) (λ_ _ _ _ n=>n)
   (λb o hc e=>#[o,k b o (λz=>hc (by simp [z])) e]) (λ_ _ e=>e) (λ_ _ _ e=>e) (λb ps e=>#[0xC,by rw[e]; simp]) (λm hm=>?_) (λb u e=>?_) I.bare
 . have e:b=it:=↑hb
   subst e;show#[h1,hL,h2,h3]
 . let#[o,es,ep,ho,r]:=hm;show#[o,es,ep,k _ o (Ne.symm hL) ho,r]
 . refine(I.hok b u e).stay (λc v hc q=>k c v ?_ q) (λ_ q=>q) λ_ _ q=>q;rcases hc with z|z
   . rw[z]; exact nit b u e
   . exact nit c _ z
def Inv.tok (I:Inv X pins σ H s) (t:Nat):Inv X pins σ H { s with toks:=t }:=I.un (h':=s.heap) (t':=t) Un.refl I.hok
def Inv.kept {t':Nat} (I:Inv X pins σ H s) (k:∀b u,s.heap.get? b=⇑u->h'.get? b=⇑u):Inv X pins σ H { s with heap:=h',toks:=t' }:=I.un (Un.kept k) (I.hok.kept k)
def Inv.laid {a:L6} {o:HO} {t':Nat} (I:Inv X pins σ H s) (k:∀b u,s.heap.get? b=⇑u->h'.get? b=⇑u) (hp:s.heap.objs.size<=a) (new:bX X.prog X.w (upd H a o) h' a o) :
   Inv X pins σ (upd H a o) { s with heap:=h',toks:=t' }:=I.un (Un.laid k hp (I.hok.fresh hp)) (I.hok.laid k hp new)
def Inv.write {x e:L6} {o:HO} {t':Nat} (I:Inv X pins σ H s) (mu:kg (H x)) (he:e=x\/H e=⇑(.own x)) (k:∀b u,b≠e->s.heap.get? b=⇑u->h'.get? b=⇑u) (heo:∃u,h'.get? e=⇑u)
   (new:bX X.prog X.w (upd H x o) h' x o):Inv X pins σ (upd H x o) { s with heap:=h',toks:=t' }:=I.un (Un.write mu he k heo) (I.hok.write mu he k heo new)
def Inv.weak {σ':List (Hl V)} (I:Inv X pins σ H s) (hl:σ'.length=σ.length) (w:∀(i:Nat) v,σ'[i]?=⇑⇑v->σ[i]?=⇑⇑v):Inv X pins σ' H s :=
 #[I.ok,I.os,I.bare,I.base,by let#[m,hn,hl']:=I.loc; show#[m,hn,λi x v e1 e2 e3=>hl' i x v e1 (w i v e2) e3],I.cell,I.free,I.freeC,I.pin,I.hok,hl\I.len]
def Inv.pins_of {pins':List (L6×Obj)} (I:Inv X pins σ H s) (h:∀p∈pins',s.heap.get? p.1=⇑p.2/\H p.1=none/\p.1≠X.env.locals/\p.1 ∉ X.fs/\∀v,p.2.data≠.cell v):Inv X pins' σ H s :=
 #[I.ok,I.os,I.bare,I.base,I.loc,I.cell,I.free,I.freeC,λp hp=>(IH.mp hp).elim (λz=>I.pin p (Ik _ z)) (h p),I.hok,I.len]
def pB {N:List Str} (hN:N.Nodup) {j:Nat}(a:N[i]?=⇑x) (b:N[j]?=⇑x):i=j:=by let#[h1,e1]:=HV.mp a;let#[h2,e2]:=HV.mp b;exact(List.getElem_inj hN).mp (e1\e2.symm)
def tQ {A:Around} {Q:Unit->L5->Prop} (I:Inv X pins σ H s) (hN:X.N.Nodup) (hi:X.N[i]?=⇑x) (hx:iz X.env.scope x) (r:aX v u)
   (h:∀s',Inv X pins (σ.set i ⇑v) H s'->(∃a,Heap.SameBut a s.heap s'.heap/\(a=X.env.locals\/X.env.cells.lookup x=⇑a))->Q () s') (hf:X.fn x=true\/X.env.scope.names.lookup x=some .local:=by first|exact .inl rfl|exact .inr rfl|assumption):wpAny M A (storeName X.env x u) Q E s:=by
 let#[m,hn,hl]:=id I.loc;have hcls:(X.env.scope.kind==.class || (X.env.scope.kind==.module&&X.env.locals != X.env.globals))=false:=by rw[I.ok.kind]; rfl
 have hiσ:i<σ.length:=by rw[I.len]; exact(HV.mp hi).1
 have cne:=I.cne;have tracked:∀{a:L6} {h':Heap},(∃o,s.heap.get? a=⇑o/\H a=none)->Heap.SameBut a s.heap h'->bE X.prog X.w H h':=λ{a h'} ha hs b ob e=>by
   let#[_,_,hfree]:=ha;refine(I.hok b ob e).stay (λc w' hc q=>(hs.2 c ?_)\q) (λ_ q=>q) λ_ _ q=>q;rintro rfl;rcases hc with rfl|hc
   . rw[hfree] at e; cases e
   . rw[hfree] at hc; cases hc
 rcases hx with hk|hk
 . refine wpAny_storeName_local hk hn (λh' hn' hs=>?_) hcls;let#[oL,_,_,hoL,_]:=id hn;refine h _ #[I.ok,I.os,I.bare,#[λb o e n hb hx=>?_,λb o e n hb hx=>?_,I.base.free,λb o e hx=>?_,I.base.tups,I.base.frzs,I.base.tbls],#[_,hn',λj y v' e1 e2 e3=>?_],λy c e=>?_,I.free,I.freeC,λp hp=>?_,tracked #[oL,hoL,I.free] hs,by simpa using I.len] #[_,hs,.inl rfl]
   . exact(hs.2 b (IG (IB (Hm e) I.ok.above))).trans (I.base.keep b o e n hb hx)
   . let#[sl,e1]:=I.base.slot b o e n hb hx;show#[sl,(hs.2 b (IG (IB (Hm e) I.ok.above)))\e1]
   . let#[o',e1]:=I.base.there b o e hx;show#[o',(hs.2 b (IG (IB (Hm e) I.ok.above)))\e1]
   . by_cases hj:j=i
     . subst hj;rw[hi] at e1; cases e1;rw[Jh hiσ] at e2;cases e2;show#[u,r,.inl #[hk,by simp]]
     . rw[JB (Ne.symm hj)] at e2;let#[u',r',q]:=hl j y v' e1 e2 e3;show#[u',r',?_];rcases q with⟨k,e⟩|⟨k,c,e,z⟩
       . refine .inl #[k,?_];have:y≠x:=λe=>hj (pB hN e1 (e ▸ hi));simp [this,e]
       . exact .inr #[k,c,e,z.sameBut hs (cne y c e)]
   . let#[w',z]:=I.cell y c e;show#[w',z.sameBut hs (cne y c e)]
   . let#[e,n,ne,nf,d]:=I.pin p hp;show#[(hs.2 p.1 ne)\e,n,ne,nf,d]
 . have hfn:X.fn x=true:=by
     rcases hf with z|z
     . exact z
     . rw[z] at hk; cases hk
   let#[c,hc]:=I.ok.has x (.inl hk);let#[w',z]:=I.cell x c hc;refine wpAny_storeName_cell I.ok.kind hk hc z (λh' hc' hs=>?_);let#[oc,hoc,hocd]:=id z;refine h { s with heap:=h' } #[I.ok,I.os,I.bare,#[λb o e n hb hx=>?_,λb o e n hb hx=>?_,I.base.free,λb o e hx=>?_,I.base.tups,I.base.frzs,I.base.tbls],#[m,hn.sameBut hs (Ne.symm (cne x c hc)),λj y v' e1 e2 e3=>?_],λy c' e=>?_,I.free,I.freeC,λp hp=>?_,tracked #[oc,hoc,I.freeC x c hc] hs,by simpa using I.len] #[c,hs,.inr hc]
   . exact(hs.2 b (IG (IB (Hm e) (I.ok.cab x c hfn hc)))).trans (I.base.keep b o e n hb hx)
   . let#[sl,e1]:=I.base.slot b o e n hb hx;show#[sl,(hs.2 b (IG (IB (Hm e) (I.ok.cab x c hfn hc))))\e1]
   . let#[o',e1]:=I.base.there b o e hx;show#[o',(hs.2 b (IG (IB (Hm e) (I.ok.cab x c hfn hc))))\e1]
   . by_cases hj:j=i
     . subst hj;rw[hi] at e1; cases e1;rw[Jh hiσ] at e2;cases e2;show#[u,r,.inr #[.inl hk,c,hc,hc']]
     . rw[JB (Ne.symm hj)] at e2;let#[u',r',q]:=hl j y v' e1 e2 e3;show#[u',r',?_];rcases q with q|⟨k,c',e,z'⟩
       . exact .inl q
       . refine .inr #[k,c',e,z'.sameBut hs ?_];rintro rfl;exact hj (pB hN e1 (I.ok.inj _ _ _ e hc ▸ hi))
   . by_cases hcc:c'=c
     . subst hcc; show#[_,hc']
     . let#[w2,z2]:=I.cell y c' e;show#[w2,z2.sameBut hs hcc]
   . let#[e,n,ne,nf,d]:=I.pin p hp;show#[(hs.2 p.1 ?_)\e,n,ne,nf,d];intro q;rw[q,hoc] at e;have q':oc=p.2:=Option.some.inj e;exact d w' (by rw[<- q']; exact hocd)
def pA {A:Around} {Q:Unit->L5->Prop} (I:Inv X pins σ H s) (hN:X.N.Nodup) (hi:X.N[i]?=⇑x) (hx:iz X.env.scope x) (r:aX v u)
   (h:∀s',Inv X pins (σ.set i ⇑v) H s'->Q () s') (hf:X.fn x=true\/X.env.scope.names.lookup x=some .local:=by first|exact .inl rfl|exact .inr rfl|assumption):wpAny M A (storeName X.env x u) Q E s :=
 tQ I hN hi hx r (λs' I' _=>h s' I') hf
def Inv.call' {s':L5} {ch:List L6} (I:Inv X pins σ H s) (ho:s'.os=s.os) (u:Un (cJ X.stack) ch H H' s.heap s'.heap) (hok:bE X.prog X.w H' s'.heap) (hg:AllBare s'.gens)
   (hch:∀b∈ch,(b∈X.ex\/X.s₀.heap.objs.size<=b)/\b≠X.env.locals/\(∀x c,X.env.cells.lookup x=⇑c->c≠b)/\∀p∈X.pn++pins,p.1≠b):Inv X pins σ H' s':=by
 let#[h',g',d',t',o']:=s';have e:o'=s.os:=ho;subst e;exact I.call (g':=g') (t':=t') (d':=d') u hok hg hch
end
noncomputable abbrev XK:=K'->Hl L6->Hp->Prop
noncomputable abbrev St:=List (Hl V)
noncomputable abbrev VK:=V->Hp->Prop
noncomputable abbrev TE:=St->Hp->VK->Prop
noncomputable abbrev TT:=St->Hp->(Bool->Hp->Prop)->Prop
noncomputable abbrev TA:=St->Hp->(List V->Hp->Prop)->Prop
structure c6 where
 nx:St->Hp->Prop
 rt:VK
 bk:St->Hp->Prop:=λ_ _=>False
 ct:St->Hp->Prop:=λ_ _=>False
noncomputable abbrev TS:=c6->St->Hp->Prop
abbrev EP (X:Cx) (pins:List (L6×Obj)) (σ:St) (Q:VK) (u:K') (s':L5):Prop:=∃v H',Inv X pins σ H' s'/\aX v u/\Q v H'
abbrev TP (X:Cx) (pins:List (L6×Obj)) (σ:St) (Q:Bool->Hp->Prop) (b:Bool) (s':L5):Prop:=∃H',Inv X pins σ H' s'/\Q b H'
abbrev AP (X:Cx) (pins:List (L6×Obj)) (σ:St) (Q:List V->Hp->Prop) (us:List K') (s':L5):Prop:=∃vs H',Inv X pins σ H' s'/\aU vs us/\Q vs H'
abbrev SP (X:Cx) (pins:List (L6×Obj)) (D:c6) (f:Flow) (s':L5):Prop :=
 match f with
 | .next=>∃σ' H',Inv X pins σ' H' s'/\D.nx σ' H'
 | .brk=>∃σ' H',Inv X pins σ' H' s'/\D.bk σ' H'
 | .cont=>∃σ' H',Inv X pins σ' H' s'/\D.ct σ' H'
 | .ret u=>∃v σ' H',Inv X pins σ' H' s'/\aX v u/\D.rt v H'
abbrev PE (X:Cx) (e:Expr) (t:TE):Prop :=
 ∀(pins:List (L6×Obj)) (s:L5) (σ:St) (H:Hp) (Q:VK),Inv X pins σ H s->t σ H Q->wpAny 0x3 X.A (eval e X.env) (EP X pins σ Q) X.xe s
abbrev PT (X:Cx) (e:Expr) (t:TT):Prop :=
 ∀(pins:List (L6×Obj)) (s:L5) (σ:St) (H:Hp) (Q:Bool->Hp->Prop),Inv X pins σ H s->t σ H Q->wpAny 0x3 X.A (isTrue e X.env (eval e X.env)) (TP X pins σ Q) X.xe s
abbrev PW (X:Cx) (e:Expr) (t:TT):Prop :=
 ∀(whole:Sem K') (pins:List (L6×Obj)) (s:L5) (σ:St) (H:Hp) (Q:Bool->Hp->Prop),Inv X pins σ H s->t σ H Q->wpAny 0x3 X.A (isTrue e X.env whole) (TP X pins σ Q) X.xe s
def PW.pt {X:Cx} {e:Expr} {t:TT} (h:PW X e t):PT X e t:=h _
abbrev PA (X:Cx) (es:List Expr) (t:TA):Prop :=
 ∀(pos:Pos) (pins:List (L6×Obj)) (s:L5) (σ:St) (H:Hp) (Q:List V->Hp->Prop),Inv X pins σ H s->t σ H Q->wpAny 0x3 X.A (spliced (backTo pos (starEach es X.env))) (AP X pins σ Q) X.xe s
abbrev PS (X:Cx) (st:Stmt) (t:TS):Prop :=
 ∀(pins:List (L6×Obj)) (s:L5) (σ:St) (H:Hp) (D:c6),Inv X pins σ H s->t D σ H->wpAny 0x3 X.A (exec st X.env) (SP X pins D) X.xe s
abbrev aO (X:Cx) (st:List Stmt) (t:TS):Prop :=
 ∀(pins:List (L6×Obj)) (s:L5) (σ:St) (H:Hp) (D:c6),Inv X pins σ H s->t D σ H->wpAny 0x3 X.A (execs st X.env) (SP X pins D) X.xe s
variable {us:List K'}
section
variable {X:Cx} {pins:List (L6×Obj)} {σ:St} {s:L5} {P:Prop}
def EP.e {Q:VK} (h:EP X pins σ Q u s) (f:∀v H,Inv X pins σ H s->aX v u->Q v H->P):P:=by let#[v,H,a,b,c]:=h;exact f v H a b c
def AP.e {Q:List V->Hp->Prop} (h:AP X pins σ Q us s) (f:∀vs H,Inv X pins σ H s->aU vs us->Q vs H->P):P:=by let#[v,H,a,b,c]:=h;exact f v H a b c
end
variable {s:L5}
def aQ {α:Type} {t:Sem α} {Q Q':α->L5->Prop} {A:Around} (h:wpAny M A t Q E s) (hQ:∀a s,Q a s->Q' a s):wpAny M A t Q' E s:=Il h hQ λ_ _ x=>x
variable {pos:Pos} {pins:List (L6×Obj)} {σ:St} {op:CmpOp}
section
variable {X:Cx}
abbrev sy (i:Nat):TE:=λσ H Q=>∃v,σ[i]?=⇑⇑v/\Q v H
abbrev tC (v:V):TE:=λ_ H Q=>Q v H
def AU (hN:X.N[i]?=⇑x) (hv:jp X.env.scope x) (hd:(x==("__debug__":Str))=false:=by decide) (hcd:(x==("__classdict__":Str))=false:=by decide):PE X (.Name x pos) (sy i):=by
 intro pins s σ H Q I h;let#[v,e,h]:=h;let#[m,hn,hl]:=I.loc;let#[u,r,l]:=hl i x v hN e hv;have fin:EP X pins σ Q u s:=#[v,H,I,r,h]
 rcases l with⟨hk,hm⟩|⟨hk,c,hc,hcell⟩
 . exact wpAny_Name (wpAny_loadName_local I.ok.kind hk hn hm fin) hd
 . rcases hk with hk|hk
   . exact wpAny_Name (wpAny_loadName_cell I.ok.kind hk hc hcell fin) hd
   . exact wpAny_Name (wpAny_loadName_free I.ok.kind hk hc hcell fin hcd) hd
def aH {i j pos}:PE X (.Constant (.int i) j pos) (tC (.int i)):=λ_ _ _ H _ I h=>wpAny_Constant_int #[.int i,H,I.tok _,#[5],h]
def bZ {b j pos}:PE X (.Constant (.bool b) j pos) (tC (.bl b)):=λ_ _ _ H _ I h=>Constant_bool #[.bl b,H,I,rfl,h]
def eP {j pos}:PE X (.Constant .none j pos) (tC .non):=λ_ _ _ H _ I h=>Constant_none #[.non,H,I,rfl,h]
def ai {x j pos}:PE X (.Constant (.str x) j pos) (tC (.str x)):=λ_ _ _ H _ I h=>Calls.Constant_str #[.str x,H,I.tok _,#[5],h]
abbrev Gl (X:Cx) (x:Str):Prop:=X.env.kindOf x=some .globalImplicit
def kr {Q:K'->L5->Prop} (I:Inv X pins σ H s) (hg:Gl X x) (hm:X.mg x=⇑u) (h:Q u s)
   (hd:(x==("__debug__":Str))=false:=by decide):wpAny 0x3 X.A (eval (.Name x pos) X.env) Q E s :=
 Calls.Name_function_global I.ok.kind hg (Calls.loadGlobal_global (by rw[I.ok.glob]; exact I.mod.glob.keeps I.bk) hm h) hd
def fk {Q:K'->L5->Prop} (I:Inv X pins σ H s) (hg:Gl X x) (hm:X.mg x=none) (hv:bootBuiltins x=⇑u) (h:Q u s)
   (hn:x≠"__name__":=by decide) (hd:(x==("__debug__":Str))=false:=by decide):wpAny 0x3 X.A (eval (.Name x pos) X.env) Q E s:=by
 let#[mb,h1,h2]:=I.mod.blt;exact Calls.Name_function_global I.ok.kind hg (Calls.loadGlobal_builtin (by rw[I.ok.glob]; exact I.mod.glob.keeps I.bk) hm (by rw[I.ok.blt]; exact h1.keeps I.bk) ((h2 x hn)\hv) h) hd
def qV (hg:Gl X x) (hm:X.mg x=⇑u) (r:aX v u) (hd:(x==("__debug__":Str))=false:=by decide):PE X (.Name x pos) (tC v) :=
 λ_ _ _ H _ I h=>kr I hg hm #[v,H,I,r,h] hd
def gB (hg:Gl X x) (hm:X.mg x=none) (hv:bootBuiltins x=⇑u) (r:aX v u) (hn:x≠"__name__":=by decide) (hd:(x==("__debug__":Str))=false:=by decide):PE X (.Name x pos) (tC v) :=
 λ_ _ _ H _ I h=>fk I hg hm hv #[v,H,I,r,h] hn hd
variable {a b:Expr} {ta tb:TE} {pos:Pos}
abbrev PC (X:Cx) (op:CmpOp) (a b:Expr) (t:TE):Prop :=
 ∀(pins:List (L6×Obj)) (s:L5) (σ:St) (H:Hp) (Q:VK),Inv X pins σ H s->t σ H Q ->
   wpAny 0x3 X.A (eval a X.env) (λv s₁=>wpAny 0x3 X.A (eval b X.env) (λu s₂=>wpAny 0x3 X.A (compareOp op v u) (EP X pins σ Q) X.xe s₂) X.xe s₁) X.xe s
def uH (b:Expr) (h:op≠.In) (h2:op≠.NotIn):behindInMarks op b=false:=by
 have e1:(op==CmpOp.In)=false:=by cases op <;> first|rfl|exact absurd rfl h
 have e2:(op==CmpOp.NotIn)=false:=by cases op <;> first|rfl|exact absurd rfl h2
 cases b <;> simp [behindInMarks,e1,e2]
abbrev BH (ta:TE):TE:=λσ H Q=>ta σ H λx H1=>Q (.bl (decide (x=.non))) H1
abbrev BL (ta:TE):TE:=λσ H Q=>ta σ H λx H1=>Q (.bl (!decide (x=.non))) H1
def aX.none_iff {x:V} {v:K'} (r:aX x v):(v==Value.none)=decide (x=.non):=by
 cases x with
 | non=>cases r; rfl
 | bl _=>cases r; rfl
 | int _=>let#[t,rfl]:=r; rfl
 | str _=>let#[t,rfl]:=r; rfl
 | byt _=>let#[t,rfl]:=r; rfl
 | flt _=>let#[t,rfl]:=r; rfl
 | ref _=>cases r; rfl
 | ty _=>cases r; rfl
def ip {j pos'} (ha:PE X a ta):PC X .Is a (.Constant .none j pos') (BH ta):=by intro pins s σ H Q I h;refine aQ (ha pins s σ H _ I h) λv s1 z4_=>?_;let#[x,H1,I1,r1,q1]:=z4_;exact Constant_none (is_none_gen #[.bl _,H1,I1,by rw[r1.none_iff]; rfl,q1])
def i0 {j pos'} (ha:PE X a ta):PC X .IsNot a (.Constant .none j pos') (BL ta):=by intro pins s σ H Q I h;refine aQ (ha pins s σ H _ I h) λv s1 z5_=>?_;let#[x,H1,I1,r1,q1]:=z5_;exact Constant_none (isnot_none_gen #[.bl _,H1,I1,by rw[r1.none_iff]; rfl,q1])
abbrev tB (t:TE):TT:=λσ H Q=>t σ H λx H1=>∃c,x=.bl c/\Q c H1
def ua {t:TE} (h:PC X op a b t) (h1:behindInMarks op b=false:=by first|exact uH _ #[] #[]|rfl):PE X (.Compare a [op] [b] pos) t:=λpins s σ H Q I hw=>wpAny_Compare1 (h pins s σ H Q I hw) h1
def eQ {t:TE} (h:PC X op a b t) (h1:behindInMarks op b=false:=by first|exact uH _ #[] #[]|rfl):PT X (.Compare a [op] [b] pos) (tB t):=by intro pins s σ H Q I hw;refine KA (aQ (h pins s σ H _ I hw) λv s1 h1=>aQ h1 λu s2 h2=>aQ h2 λc s3 z6_=>?_) h1;let#[x,H1,I1,r1,q1]:=z6_;let#[d,rfl,q]:=q1;cases r1;exact JH #[H1,I1,q]
variable {tA tB':TT} {rest:List Expr}
abbrev F3 (t u:TT):TT:=λσ H Q=>t σ H λc H1=>if c=true then u σ H1 Q else Q false H1
abbrev tOr (t u:TT):TT:=λσ H Q=>t σ H λc H1=>if c=true then Q true H1 else u σ H1 Q
abbrev DU (t:TT):TT:=λσ H Q=>t σ H λc H1=>Q (!c) H1
def ll (ha:PT X a tA):PW X (.BoolOp .And [a] pos) tA:=by
 intro wh pins s σ H Q I h;refine isTrue_and (aQ (ha pins s σ H Q I h) λc s1 e=>?_);cases c with
 | true=>exact isTrue_and_nil e
 | false=>exact e
def eZ (ha:PT X a tA):PW X (.BoolOp .Or [a] pos) tA:=by
 intro wh pins s σ H Q I h;refine isTrue_or (aQ (ha pins s σ H Q I h) λc s1 e=>?_);cases c with
 | false=>exact isTrue_or_nil e
 | true=>exact e
def nI (ha:PT X a tA) (hb:PW X (.BoolOp .And (b::rest) pos) tB'):PW X (.BoolOp .And (a::b::rest) pos) (F3 tA tB'):=by
 intro wh pins s σ H Q I h;refine isTrue_and (aQ (ha pins s σ H _ I h) λc s1 z8_=>?_);let#[H1,I1,q1]:=z8_;cases c with
 | true=>exact hb wh pins s1 σ H1 Q I1 q1
 | false=>show#[H1,I1,q1]
def dP (ha:PT X a tA) (hb:PW X (.BoolOp .Or (b::rest) pos) tB'):PW X (.BoolOp .Or (a::b::rest) pos) (tOr tA tB'):=by
 intro wh pins s σ H Q I h;refine isTrue_or (aQ (ha pins s σ H _ I h) λc s1 z9_=>?_);let#[H1,I1,q1]:=z9_;cases c with
 | true=>show#[H1,I1,q1]
 | false=>exact hb wh pins s1 σ H1 Q I1 q1
def cX (ha:PT X a tA):PT X (.UnaryOp .Not a pos) (DU tA):=by intro pins s σ H Q I h;exact isTrue_not (ha pins s σ H (λc H1=>Q (!c) H1) I h)
abbrev Dd (ta tb:TE):TE:=λσ H Q=>ta σ H λx H1=>∃c,x=.bl c/\if c=true then tb σ H1 Q else Q (.bl false) H1
abbrev zg (ta:TE):TE:=λσ H Q=>ta σ H λx H1=>∃c,x=.bl c/\Q (.bl (!c)) H1
def i5 {op} {t:TE} (h:PE X a t):PE X (.BoolOp op [a] pos) t:=λpins s σ H Q I hw=>BoolOp_one (h pins s σ H Q I hw)
def g7 (ha:PE X a ta) (hb:PE X (.BoolOp .And (b::rest) pos) tb):PE X (.BoolOp .And (a::b::rest) pos) (Dd ta tb):=by
 intro pins s σ H Q I h;refine BoolOp_and (aQ (ha pins s σ H _ I h) λv s1 z10_=>?_);let#[x,H1,I1,r1,q1]:=z10_;let#[c,rfl,q1]:=q1;cases r1;refine JH ?_;cases c with
 | true=>exact hb pins s1 σ H1 Q I1 q1
 | false=>show#[.bl false,H1,I1,rfl,q1]
def qH (ha:PE X a ta):PE X (.UnaryOp .Not a pos) (zg ta):=by intro pins s σ H Q I h;refine UnaryOp_ (aQ (ha pins s σ H _ I h) λv s1 z12_=>?_);let#[x,H1,I1,r1,q1]:=z12_;let#[c,rfl,q1]:=q1;cases r1;exact not_of (JH #[.bl (!c),H1,I1,rfl,q1])
abbrev tIf (t:TT) (ta tb:TE):TE:=λσ H Q=>t σ H λc H1=>if c=true then ta σ H1 Q else tb σ H1 Q
def iA {c:Expr} (hc:PT X c tA) (ha:PE X a ta) (hb:PE X b tb):PE X (.IfExp c a b pos) (tIf tA ta tb):=by
 intro pins s σ H Q I h;refine wpAny_IfExp (aQ (hc pins s σ H _ I h) λd s1 z13_=>?_);let#[H1,I1,q1]:=z13_;cases d with
 | true=>exact ha pins s1 σ H1 Q I1 q1
 | false=>exact hb pins s1 σ H1 Q I1 q1
end
abbrev aE (K:L7) (H:Hp) (a:L6) (xs:List V):Prop :=
 Rd H a (.lst xs) \/
   ∃(o:Obj) (its:Array K') (n:Nat),K.lookup a=⇑o/\o.cls=.type "list"/\o.dict=none/\o.data=.seq its n/\its.size<=sizeLine/\aU xs its.toList
abbrev aG (K:L7) (H:Hp) (a:L6) (xs:List V):Prop :=
 Rd H a (.tup xs) \/
   ∃(o:Obj) (its:Array K') (n:Nat),K.lookup a=⇑o/\o.cls=.type "tuple"/\o.data=.seq its n/\its.size<=sizeLine/\aU xs its.toList
abbrev EH:K'->Hl V
 | .none=>some .non
 | .bool b=>⇑(.bl b)
 | .int i _=>⇑(.int i)
 | .str x _=>⇑(.str x)
 | .bytes b _=>⇑(.byt b)
 | .float b _=>⇑(.flt b)
 | .ref a=>⇑↥a
 | .type n=>⇑(.ty n)
 | _=>none
def aX.abs {x:V} (r:aX x u):EH u=⇑x:=by
 cases x with
 | non=>cases r; rfl
 | bl _=>cases r; rfl
 | int _=>let#[t,rfl]:=r; rfl
 | str _=>let#[t,rfl]:=r; rfl
 | byt _=>let#[t,rfl]:=r; rfl
 | flt _=>let#[t,rfl]:=r; rfl
 | ref _=>cases r; rfl
 | ty _=>cases r; rfl
def aX.inj {x y:V} {u:K'} (r:aX x u) (q:aX y u):x=y:=Option.some.inj (r.abs.symm\q.abs)
def aU.inj:∀{xs ys:List V} {us:List K'},aU xs us->aU ys us->xs=ys:=by
 intro xs ys us h h'
 induction h generalizing ys with
 | nil=>cases h'; rfl
 | cons r t ih =>
   cases h' with
   | cons r' t'=>rw[r.inj r',ih t']
variable {K:L7}
section
variable {X:Cx} {pins:List (L6×Obj)} {σ:St} {H:Hp} {s:L5} {a:L6} {xs ys:List V}
def aE.of (h:H a=⇑(.lst xs)):aE K H a xs:=.inl (.inl h)
def aG.of (h:H a=⇑(.tup xs)):aG K H a xs:=.inl (.inl h)
def Inv.list (I:Inv X pins σ H s) (h:aE X.K H a xs):∃its:List K',aU xs its/\PlainL s.heap a its.toArray/\xs.length<=sizeLine:=by
 rcases h with h|⟨o,its,n,hk,hc,hd,hs,hz,r⟩
 . let#[z,its,n,r,e]:=h.ok I.hok;show#[its,r,#[_,n,e,15],z]
 . show#[its.toList,r,#[o,n,I.kIn a o hk,hc,hd,by simpa using hs],?_];have e:=r.length;simp only[KP] at e
   lia
def Inv.tuple (I:Inv X pins σ H s) (h:aG X.K H a xs):∃its:List K',aU xs its/\IsTup s.heap a its.toArray/\xs.length<=sizeLine:=by
 rcases h with h|⟨o,its,n,hk,hc,hs,hz,r⟩
 . let#[z,its,r,p]:=h.ok I.hok;show#[its,r,p,z]
 . show#[its.toList,r,#[o,I.kIn a o hk,hc,n,by simpa using hs],?_];have e:=r.length;simp only[KP] at e
   lia
def Inv.list_inj (I:Inv X pins σ H s) (h:aE X.K H a xs) (h':aE X.K H a ys):xs=ys:=by
 obtain⟨its,r,⟨o,n,e,_,_,d⟩,_⟩:=I.list h;obtain⟨its',r',⟨o',n',e',_,_,d'⟩,_⟩:=I.list h';rw[e] at e'; cases e';rw[d] at d';injection d' with d1 _
 have:its=its':=by simpa using Hr Array.toList d1
 subst this;exact r.inj r'
def Inv.tuple_inj (I:Inv X pins σ H s) (h:aG X.K H a xs) (h':aG X.K H a ys):xs=ys:=by
 obtain⟨its,r,⟨o,e,_,n,d⟩,_⟩:=I.tuple h;obtain⟨its',r',⟨o',e',_,n',d'⟩,_⟩:=I.tuple h';rw[e] at e'; cases e';rw[d] at d';injection d' with d1 _
 have:its=its':=by simpa using Hr Array.toList d1
 subst this;exact r.inj r'
end
noncomputable abbrev Cx.wish (X:Cx) (E:K'->L5->Prop):Cx:={ X with xe:=E }
noncomputable abbrev Cx.nox (X:Cx):Cx:=X.wish λ_ _=>False
variable {X:Cx}
def Cx.Ok.wish (ok:X.Ok) (E:K'->L5->Prop):(X.wish E).Ok :=
 #[ok.mod,ok.kind,ok.glob,ok.blt,ok.above,ok.inj,ok.has,ok.cab,ok.hd,ok.frames,ok.stk,ok.exf,ok.bs,ok.bsz,ok.noex,ok.exfs,ok.funs,ok.frf]
def Cx.Ok.unwish (ok:(X.wish E).Ok):X.Ok :=
 #[ok.mod,ok.kind,ok.glob,ok.blt,ok.above,ok.inj,ok.has,ok.cab,ok.hd,ok.frames,ok.stk,ok.exf,ok.bs,ok.bsz,ok.noex,ok.exfs,ok.funs,ok.frf]
section
variable {X:Cx} {pins:List (L6×Obj)} {σ:St} {H:Hp} {s:L5} {E:K'->L5->Prop}
def Inv.wish (I:Inv X pins σ H s) (E:K'->L5->Prop):Inv (X.wish E) pins σ H s:=#[I.ok.wish E,I.os,I.bare,I.base,I.loc,I.cell,I.free,I.freeC,I.pin,I.hok,I.len]
def Inv.unwish (I:Inv (X.wish E) pins σ H s):Inv X pins σ H s:=#[I.ok.unwish,I.os,I.bare,I.base,I.loc,I.cell,I.free,I.freeC,I.pin,I.hok,I.len]
def SP.unwish {D:c6} {f:Flow} {s':L5} (h:SP (X.wish E) pins D f s'):SP X pins D f s':=by
 cases f with
 | next=>let#[σ',H',I,q]:=h; show#[σ',H',I.unwish,q]
 | brk=>let#[σ',H',I,q]:=h; show#[σ',H',I.unwish,q]
 | cont=>let#[σ',H',I,q]:=h; show#[σ',H',I.unwish,q]
 | ret u=>let#[v,σ',H',I,r,q]:=h; show#[v,σ',H',I.unwish,r,q]
def aO.nox {st:List Stmt} {t:TS} (h:aO X.nox st t):aO X st t:=λpins s σ H D I hw =>
 Il (h pins s σ H D (I.wish _) hw) (λ_ _ q=>q.unwish) λ_ _ z=>False.elim z
end
section
variable {X:Cx} {st:Stmt} {rest:List Stmt} {t u:TS} {e:Expr} {te:TE} {pos:Pos}
abbrev AK:TS:=λD σ H=>D.nx σ H
abbrev Bv (t u:TS):TS:=λD σ H=>t { D with nx:=u D } σ H
def ac:aO X [] AK:=λ_ _ σ H _ I h=>JO #[σ,H,I,h]
def aJ (h1:PS X st t) (h2:aO X rest u):aO X (st::rest) (Bv t u):=by
 intro pins s σ H D I h;refine Jb (aQ (h1 pins s σ H { D with nx:=u D } I h) λf s1 q=>?_);cases f with
 | next =>
   let#[σ',H',I',q]:=q;exact h2 pins s1 σ' H' D I' q
 | ret v=>exact q
 | brk=>exact q
 | cont=>exact q
def aK (h1:PS X st t):aO X [st] t:=by
 intro pins s σ H D I h;refine Jb (aQ (h1 pins s σ H D I h) λf s1 q=>?_);cases f with
 | next=>exact JO q
 | ret v=>exact q
 | brk=>exact q
 | cont=>exact q
def Inv.quiet (I:Inv X pins σ H s):interactive X.env=false:=by simp [interactive,I.ok.kind]
abbrev GM (te:TE):TS:=λD σ H=>te σ H λ_ H1=>D.nx σ H1
def bW (he:PE X e te) (hs:swapsWith e none pos.line X.env=pure false:=by rfl):PS X (.Expr e pos) (GM te):=by intro pins s σ H D I h;exact wpAny_Expr_any (aQ (he pins s σ H _ I h) λv s1 z16_=>by let#[x,H1,I1,r1,q1]:=z16_; show#[σ,H1,I1,q1]) I.quiet hs
abbrev EA (te:TE):TS:=λD σ H=>te σ H D.rt
def aR (he:PE X e te):PS X (.Return ⇑e pos) (EA te):=by intro pins s σ H D I h;exact wpAny_Return_some (aQ (he pins s σ H _ I h) λv s1 z17_=>by let#[x,H1,I1,r1,q1]:=z17_; show#[x,σ,H1,I1,r1,q1])
abbrev DJ (c:TT) (t u:TS):TS:=λD σ H=>c σ H λb H1=>if b=true then t D σ H1 else u D σ H1
def af {c:Expr} {a b:List Stmt} {tc:TT} (hc:PT X c tc) (ha:aO X a t) (hb:aO X b u):PS X (.If c a b pos) (DJ tc t u):=by
 intro pins s σ H D I h;refine wpAny_If (aQ (hc pins s σ H _ I h) λd s1 z18_=>?_);let#[H1,I1,q1]:=z18_;cases d with
 | true=>exact ha pins s1 σ H1 D I1 q1
 | false=>exact hb pins s1 σ H1 D I1 q1
end
noncomputable abbrev TG:=V->St->Hp->(St->Hp->Prop)->Prop
noncomputable abbrev eV:=List V->St->Hp->(St->Hp->Prop)->Prop
abbrev PG (X:Cx) (target:Expr) (t:TG):Prop :=
 ∀(pins:List (L6×Obj)) (s:L5) (σ:St) (H:Hp) (v:V) (u:K') (Q:St->Hp->Prop),Inv X pins σ H s->aX v u->t v σ H Q ->
   wpAny 0x3 X.A (assign target X.env u) (λ_ s'=>∃σ' H',Inv X pins σ' H' s'/\Q σ' H') X.xe s
abbrev jv (X:Cx) (ts:List Expr) (t:eV):Prop :=
 ∀(pins:List (L6×Obj)) (s:L5) (σ:St) (H:Hp) (vs:List V) (us:List K') (Q:St->Hp->Prop),Inv X pins σ H s->aU vs us->t vs σ H Q ->
   wpAny 0x3 X.A (assignInOrder ((assignEach ts X.env).map (·.2)) us) (λ_ s'=>∃σ' H',Inv X pins σ' H' s'/\Q σ' H') X.xe s
noncomputable abbrev qS:=V->V->V->Hp->(Hp->Prop)->Prop
abbrev wT (X:Cx) (t:qS):Prop :=
 ∀(pins:List (L6×Obj)) (s:L5) (σ:St) (H:Hp) (o i v:V) (ov iv u:K') (Q:Hp->Prop),Inv X pins σ H s->aX o ov->aX i iv->aX v u->t o i v H Q ->
   wpAny 0x3 X.A (setItem ov iv u) (λ_ s'=>∃H',Inv X pins σ H' s'/\Q H') X.xe s
variable {tg:Expr} {g:TG}
section
variable {X:Cx} {pos:Pos}
abbrev fw (i:Nat):TG:=λv σ H Q=>Q (σ.set i ⇑v) H
def aY (hN:X.N.Nodup) (hi:X.N[i]?=⇑x) (hx:iz X.env.scope x) (hf:X.fn x=true\/X.env.scope.names.lookup x=some .local:=by first|exact .inl rfl|exact .inr rfl|assumption):PG X (.Name x pos) (fw i):=by intro pins s σ H v u Q I r h;exact wpAny_assign_Name (pA I hN hi hx r (λs' I'=>#[_,H,I',h]) hf)
abbrev wj:eV:=λvs σ H Q=>vs=[]/\Q σ H
abbrev sQ (t:TG) (u:eV):eV:=λvs σ H Q=>∃v r,vs=v::r/\t v σ H λσ' H'=>u r σ' H' Q
def ck:jv X [] wj:=by intro pins s σ H vs us Q I r h;let#[e,h]:=h;subst e;cases r;exact assignInOrder_nil #[σ,H,I,h]
def bK {e:Expr} {es:List Expr} {t:TG} {u:eV} (h1:PG X e t) (h2:jv X es u)
   (hs:(assignEach (e::es) X.env).map (·.2)=assign e X.env::(assignEach es X.env).map (·.2):=by rfl):jv X (e::es) (sQ t u):=by
 intro pins s σ H vs us Q I r h;let#[v,vr,e1,h]:=h;subst e1;cases r with
 | cons r rr =>
   rw[hs];refine assignInOrder_cons (aQ (h1 pins s σ H _ _ _ I r h) λ_ s1 z19_=>?_);let#[σ1,H1,I1,q1]:=z19_;exact h2 pins s1 σ1 H1 _ _ Q I1 rr q1
abbrev jr (K:L7) (n:Nat) (t:eV):TG:=λv σ H Q=>∃a xs,v=↥a/\aG K H a xs/\xs.length=n/\t xs σ H Q
def cx {es:List Expr} {k:Nat} {t:eV} {n:Nat} (hc:X.calm=true) (h:jv X es t)
   (hn:(assignEach es X.env).length=n:=by rfl) (hst:(assignEach es X.env).findIdx? (·.1)=none:=by rfl):PG X (.Tuple es k pos) (jr X.K n t):=by
 intro pins s σ H v u Q I r hw;let#[a,xs,e1,hq,hl,hw]:=hw;subst e1;cases r;let#[its,rv,ht,hz]:=I.tuple hq;refine assign_Tuple_tuple (I.ok.hd hc) ht (by simp [hn,<- hl,rv.length]) hst λh' hx=>?_;have I1:Inv X pins σ H { s with heap:=h' }:=I.kept (t':=s.toks) λb o e=>hx b o (IG (Hm e)) e;exact h pins _ σ H xs _ Q I1 ↑rv hw
abbrev DQ (to ti:TE) (t:qS):TG:=λv σ H Q=>to σ H λo H1=>ti σ H1 λi H2=>t o i v H2 λH3=>Q σ H3
def kF {o i:Expr} {to ti:TE} {t:qS} (ho:PE X o to) (hi:PE X i ti) (hs:wT X t)
   (ha:∀v,assign (.Subscript o i pos) X.env v=(do
     let ov <- holding [v] (eval o X.env)
     let iv <- holding [v,ov] (eval i X.env)
     standAt pos
     holding [v,ov,iv] (setItem ov iv v)
     release [v,ov,iv] []):=by intro _; rfl):PG X (.Subscript o i pos) (DQ to ti t):=by
 intro pins s σ H v u Q I r h;rw[ha];refine HR (IW (aQ (ho pins s σ H _ I h) λov s1 z20_=>?_));let#[x,H1,I1,r1,q1]:=z20_;refine HR (IW (aQ (hi pins s1 σ H1 _ I1 q1) λiv s2 z21_=>?_));let#[y,H2,I2,r2,q2]:=z21_;refine HR (Jr (HR (IW (aQ (hs pins s2 σ H2 x y v ov iv u _ I2 r1 r2 r q2) λ_ s3 z22_=>?_))));let#[H3,I3,q3]:=z22_;exact wpAny_release #[σ,H3,I3,q3]
abbrev mV (te:TE) (g:TG):TS:=λD σ H=>te σ H λx H1=>g x σ H1 D.nx
def gS {e:Expr}{te:TE} (he:PE X e te) (hg:PG X tg g) (hs:swapsWithSole [tg] e pos.line X.env=pure false:=by rfl) (hw:swappedStores [tg] e X.env=pure none:=by rfl)
   (h1:(assignEach [tg] X.env).map (·.2)=[assign tg X.env]:=by rfl):PS X (.Assign [tg] e pos) (mV te g):=by
 intro pins s σ H D I h;refine wpAny_Assign_stores (aQ (he pins s σ H _ I h) λv s1 z23_=>?_) hs hw;let#[x,H1,I1,r1,q1]:=z23_;rw[h1];exact aQ (hg pins s1 σ H1 x v _ I1 r1 q1) λ_ s2 q=>q
def dO {i:Nat} {x:Str} {e:Expr} {te:TE} {pos':Pos} (hN:X.N.Nodup) (hi:X.N[i]?=⇑x) (hx:iz X.env.scope x) (he:PE X e te) (hs:swapsWith e ⇑(.Name x pos') pos.line X.env=pure false:=by rfl) (hf:X.fn x=true\/X.env.scope.names.lookup x=some .local:=by first|exact .inl rfl|exact .inr rfl|assumption) :
   PS X (.Assign [.Name x pos'] e pos) (mV te (fw i)):=by
 intro pins s σ H D I h;refine wpAny_Assign_Name (aQ (he pins s σ H _ I h) λv s1 z24_=>?_) hs;let#[y,H1,I1,r1,q1]:=z24_;exact pA I1 hN hi hx r1 (λs2 I2=>#[_,H1,I2,q1]) hf
end
structure It where
 go:Nat->Hp->Prop
 yld:Nat->Hp->V->Hp->Prop
 stop:Nat->Hp->Prop
abbrev dq (X:Cx) (pins:List (L6×Obj)) (H:Hp) (b:L6):Prop :=
 H b=none/\b≠X.env.locals/\b ∉ X.fs/\(b∈X.ex\/X.s₀.heap.objs.size<=b)/\(∀x c,X.env.cells.lookup x=⇑c->c≠b)/\∀p∈X.pn++pins,p.1≠b
def Inv.fpOk {H':Hp}{b:L6} (I:Inv X pins σ H s) (hb:s.heap.objs.size<=b) (hn:H' b=none):dq X pins H' b:=by
 show#[hn,JC (IB I.lt hb),I.nofs hb,.inr (Hu I.sz hb),λx c e z=>?_,λp hp z=>?_]
 . let#[v,q]:=I.cell x c e;exact absurd (IB q.lt (by rw[z]; exact hb)) (Ia _)
 . exact absurd (IB (Hm (I.pin p hp).1) (by rw[z]; exact hb)) (Ia _)
structure Turn (P:Program) (w:World) (K:W.Frag) (tg:Expr) (J:It) (fp:List Addr) (it:Addr) (tn:Nat->Heap->Prop):Prop where
 mem:it∈fp
 obj:∀i h,tn i h->∀b∈fp,∃o,h.get? b=⇑o/\∀v,o.data≠.cell v
 keep:∀i h h',tn i h->(∀b∈fp,∀o,h.get? b=⇑o->h'.get? b=⇑o)->tn i h'
 item:∀(X:Cx),X.prog=P->X.w=w->X.K=K->X.calm=true->∀(i:Nat) (pins:List (Addr×Obj)) (s:Shared) (σ:St) (H:Hp) (E:Value->Shared->Prop),Inv X pins σ H s->(∀b∈fp,dq X pins H b)->tn i s.heap->J.go i H ->
   wpAny (model P w) X.A (pyNext ↥it) (λr s1=>∃u,r=⇑u /\
     wpAny (model P w) X.A (letOwnedTupleGo tg ↥it u) (λ_ s2=>∃x H',Inv X pins σ H' s2/\aX x u/\J.yld i H x H'/\tn (i+1) s2.heap/\∀b∈fp,H' b=none) E s1) E s
 done:∀(X:Cx),X.prog=P->X.w=w->X.K=K->X.calm=true->∀(i:Nat) (pins:List (Addr×Obj)) (s:Shared) (σ:St) (H:Hp) (E:Value->Shared->Prop),Inv X pins σ H s->(∀b∈fp,dq X pins H b)->tn i s.heap->J.stop i H ->
   wpAny (model P w) X.A (pyNext ↥it) (λr s1=>r=none/\Inv X pins σ H s1) E s
 self:∀(A:Around) (i:Nat) (s:Shared) (Q:Value->Shared->Prop) (E:Value->Shared->Prop),tn i s.heap->Q ↥it s->wpAny (model P w) A (pyIter ↥it) Q E s
noncomputable abbrev TI:=St->Hp->(It->Hp->Prop)->Prop
abbrev PIE (X:Cx) (pins:List (L6×Obj)) (σ:St) (tg:Expr) (R:It->Hp->Prop) (itv:K') (s2:L5):Prop :=
 ∃(it:L6) (fp:List L6) (tn:Nat->Heap->Prop) (J:It) (H':Hp),itv=↥it/\Inv X pins σ H' s2/\Turn X.prog X.w X.K tg J fp it tn/\tn 0 s2.heap/\(∀b∈fp,dq X pins H' b)/\R J H'
abbrev PI (X:Cx) (tg iter:Expr) (wi:TI):Prop :=
 ∀(pins:List (L6×Obj)) (s:L5) (σ:St) (H:Hp) (R:It->Hp->Prop),Inv X pins σ H s->wi σ H R ->
   wpAny 0x3 X.A (eval iter X.env) (λv s1=>wpAny 0x3 X.A (pyIter v) (PIE X pins σ tg R) X.xe s1) X.xe s
def nz {A:Around} {it:L6} {o:Obj} {n:String} {vs:Array K'} {Q:Unit->L5->Prop} (ho:s.heap.get? it=⇑o) (hc:o.cls=.type n) (hd:o.data=.fields vs)
   (hn:["enumerate","zip","dict_itemiterator","dict_reverseitemiterator","odict_iterator","itertools.zip_longest","itertools.pairwise"].contains n=false) (hQ:Q () s):wpAny M A (letOwnedTupleGo tg ↥it u) Q E s:=by
 unfold letOwnedTupleGo;cases tg <;> first
   | exact Ha hQ
   | (cases u <;> first
       | exact Ha hQ
       | (refine HR (wpAny_load ho ?_)
          rw[hc,hd];show wpAny M A (if(["enumerate","zip","dict_itemiterator","dict_reverseitemiterator","odict_iterator","itertools.zip_longest","itertools.pairwise"].contains n&&vs[0]?==⇑(rawInt _))=true then _ else _) Q E s;rw[HX (by intro h; rw[hn,Bool.false_and] at h; cases h)];exact Ha hQ))
abbrev iI (K:L7) (a:L6):It :=
 #[λi H=>∃xs x,aE K H a xs/\xs[i]?=⇑x,λi H x H'=>H'=H/\∀xs,aE K H a xs->xs[i]?=⇑x,λi H=>∃xs,aE K H a xs/\xs.length<=i]
abbrev iO (K:L7) (a:L6):It :=
 #[λi H=>∃xs x,aG K H a xs/\xs[i]?=⇑x,λi H x H'=>H'=H/\∀xs,aG K H a xs->xs[i]?=⇑x,λi H=>∃xs,aG K H a xs/\xs.length<=i]
abbrev gE (lo:Int) (n:Nat):It:=#[λi _=>i<n,λi H x H'=>H'=H/\x=.int (lo+i),λi _=>n<=i]
def Co (a it:L6):Turn P w K tg (iI K a) [it] it (λi h=>h.IsListIter it a i) where
 mem:=by simp
 obj:=λi h st b hb=>by
   have e:b=it:=↑hb
   subst e;let#[o,e,c,d]:=st;show#[o,e,λv z=>by rw[d] at z; cases z]
 keep:=λi h h' st k=>st.at λo e=>k it 0x8 o e
 item:=by intro X hP hw hK hc i pins s σ H E I hf st hg;subst hP hw hK;let#[xs,x,hq,hx]:=hg;let#[its,rv,p,hz]:=I.list hq;let#[u,hu,ru]:=rv.get hx;let#[f0,f1,f2,f3,f4,f5]:=hf it 0x8;refine K4 st p.isList (x:=u) ↑hu λh' st' sb=>?_;have I1:Inv X pins σ H { s with heap:=h' }:=I.turned (t':=s.toks) (λb o hb e=>(sb.2 b hb)\e) f0 f1 f3 f4 f5;let#[o,e,c,d]:=id st';show#[u,rfl,nz (s:={ s with heap:=h' }) e c d #[] #[x,H,I1,ru,#[rfl,λys hy=>by rw[I.list_inj hy hq]; exact hx],st',λb hb=>(hf b hb).1]]
 done:=by intro X hP hw hK hc i pins s σ H E I hf st hg;subst hP hw hK;let#[xs,hq,hx]:=hg;let#[its,rv,p,hz]:=I.list hq;let#[f0,f1,f2,f3,f4,f5]:=hf it 0x8;have hl:=rv.length;exact KB (I.ok.hd hc) st p.isList (by simp; lia) λh' eb=>#[rfl,I.turned (t':=s.toks) (λb o hb e=>eb b o hb e) f0 f1 f3 f4 f5]
 self:=λ_ _ _ _ _ st h=>wpAny_pyIter_listiter st h
def AZ (a it:L6):Turn P w K tg (iO K a) [it] it (λi h=>h.IsTupleIter it a i) where
 mem:=by simp
 obj:=λi h st b hb=>by
   have e:b=it:=↑hb
   subst e;let#[o,e,c,d]:=st;show#[o,e,λv z=>by rw[d] at z; cases z]
 keep:=λi h h' st k=>st.at λo e=>k it 0x8 o e
 item:=by intro X hP hw hK hc i pins s σ H E I hf st hg;subst hP hw hK;let#[xs,x,hq,hx]:=hg;let#[its,rv,p,hz]:=I.tuple hq;let#[u,hu,ru]:=rv.get hx;let#[f0,f1,f2,f3,f4,f5]:=hf it 0x8;refine wpAny_pyNext_tuple_item st (show s.heap.IsTuple a its.toArray from p) (x:=u) ↑hu λh' st' sb=>?_;have I1:Inv X pins σ H { s with heap:=h' }:=I.turned (t':=s.toks) (λb o hb e=>(sb.2 b hb)\e) f0 f1 f3 f4 f5;let#[o,e,c,d]:=id st';show#[u,rfl,nz (s:={ s with heap:=h' }) e c d #[] #[x,H,I1,ru,#[rfl,λys hy=>by rw[I.tuple_inj hy hq]; exact hx],st',λb hb=>(hf b hb).1]]
 done:=by intro X hP hw hK hc i pins s σ H E I hf st hg;subst hP hw hK;let#[xs,hq,hx]:=hg;let#[its,rv,p,hz]:=I.tuple hq;let#[f0,f1,f2,f3,f4,f5]:=hf it 0x8;have hl:=rv.length;exact wpAny_pyNext_tuple_end (I.ok.hd hc) st (show s.heap.IsTuple a its.toArray from p) (by simp; lia) λh' eb=>#[rfl,I.turned (t':=s.toks) (λb o hb e=>eb b o hb e) f0 f1 f3 f4 f5]
 self:=λ_ _ _ _ _ st h=>wpAny_pyIter_tupleiter st h
def Dq (it:L6) (lo:Int) (n:Nat):Turn P w K tg (gE lo n) [it] it (λi h=>IsRangeIter h it (lo+(i:Nat) * 1) ((n:Int) - (i:Nat)) 1) where
 mem:=by simp
 obj:=λi h st b hb=>by
   have e:b=it:=↑hb
   subst e;show#[_,st,λv z=>by have z':Data.fields _=Data.cell v:=z;cases z']
 keep:=λi h h' st k=>k it 0x8 _ st
 item:=by intro X hP hw hK hc i pins s σ H E I hf st hg;subst hP hw hK;let#[f0,f1,f2,f3,f4,f5]:=hf it 0x8;have W:=Walks.range (prog:=X.prog) (w:=X.w) (I.ok.hd hc) it lo 1 n;refine W.item i s _ _ hg st λv h' tk hv st' kk=>?_;let#[t,rfl]:=hv;have I1:Inv X pins σ H { s with heap:=h',toks:=tk }:=I.turned (λb o hb e=>kk b o ↑hb e) f0 f1 f3 f4 f5;show#[5,nz (s:={ s with heap:=h',toks:=tk }) (n:="range_iterator") st' rfl rfl #[] #[.int (lo+i),H,I1,#[t,?_],#[7],st',λb hb=>(hf b hb).1]];rw[Int.mul_one]
 done:=by intro X hP hw hK hc i pins s σ H E I hf st hg;subst hP hw hK;let#[f0,f1,f2,f3,f4,f5]:=hf it 0x8;exact wpAny_pyNext_range_end (I.ok.hd hc) st (by have:n<=i:=hg; lia) λh' eb=>#[rfl,I.turned (t':=s.toks) (λb o hb e=>eb b o hb e) f0 f1 f3 f4 f5]
 self:=λ_ _ _ _ _ st h=>wpAny_pyIter_rangeiter st h
variable {tb:TS}
section
variable {X:Cx} {tg:Expr}
abbrev sS (K:L7) (tl:TE):TI:=λσ H R=>tl σ H λx H1=>∃a,x=↥a/\(∃xs,aE K H1 a xs)/\R (iI K a) H1
abbrev Gj (K:L7) (tl:TE):TI:=λσ H R=>tl σ H λx H1=>∃a,x=↥a/\(∃xs,aG K H1 a xs)/\R (iO K a) H1
def d7 {l:Expr} {tl:TE} (hl:PE X l tl):PI X tg l (sS X.K tl):=by
 intro pins s σ H R I h;refine aQ (hl pins s σ H _ I h) λv s1 z35_=>?_;let#[x,H1,I1,r1,q1]:=z35_;obtain⟨a,e,⟨xs,hq⟩,q⟩:=q1;subst e;cases r1;let#[its,rv,p,hz]:=I1.list hq;refine J0 p.isList ?_;show#[s1.heap.objs.size,[s1.heap.objs.size],4,H1,rfl,I1.kept (t':=s1.toks) λb o e=>HW _ e,Co a _,#[_,Hs _ rfl,7],λb hb=>?_,q];have e:b=s1.heap.objs.size:=↑hb
 subst e;exact I1.fpOk (HY _) (I1.hok.fresh (HY _))
def nO {l:Expr} {tl:TE} (hl:PE X l tl):PI X tg l (Gj X.K tl):=by
 intro pins s σ H R I h;refine aQ (hl pins s σ H _ I h) λv s1 z36_=>?_;let#[x,H1,I1,r1,q1]:=z36_;obtain⟨a,e,⟨xs,hq⟩,q⟩:=q1;subst e;cases r1;let#[its,rv,p,hz]:=I1.tuple hq;refine J7 (show s1.heap.IsTuple a its.toArray from p) ?_;show#[s1.heap.objs.size,[s1.heap.objs.size],4,H1,rfl,I1.kept (t':=s1.toks) λb o e=>HW _ e,AZ a _,#[_,Hs _ rfl,7],λb hb=>?_,q];have e:b=s1.heap.objs.size:=↑hb
 subst e;exact I1.fpOk (HY _) (I1.hok.fresh (HY _))
def zy {R:It->Hp->Prop} {lo hi:Int} {t u v:Tok} {tk:Nat} (I:Inv X pins σ H s) (h1:-(2 ^ 62)<=lo) (h2:lo<2 ^ 62) (h3:-(2 ^ 62)<=hi) (h4:hi<2 ^ 62)
   (q:R (gE lo (hi - lo).toNat) H):wpAny 0x3 X.A (pyIter ↥s.heap.objs.size) (PIE X pins σ tg R) E { s with heap:=s.heap.push { cls:=.type "range",data:=.fields (List.toArray [.int lo t,.int hi u,.int 1 v]) },toks:=tk }:=by
 refine wpAny_pyIter_range (IsRange.new ..) (small_one h1 h2 h3 h4) ?_;have I1:Inv X pins σ H { s with heap:=s.heap.push { cls:=.type "range",data:=.fields (List.toArray [.int lo t,.int hi u,.int 1 v]) },toks:=tk }:=I.kept λb o e=>HW _ e;show#[(s.heap.push { cls:=.type "range",data:=.fields (List.toArray [.int lo t,.int hi u,.int 1 v]) }).objs.size,[(s.heap.push { cls:=.type "range",data:=.fields (List.toArray [.int lo t,.int hi u,.int 1 v]) }).objs.size],4,H,rfl,
   I1.kept (t':=tk) λb o e=>HW _ e,Dq _ lo (hi - lo).toNat,?_,λb hb=>?_,q]
 . have e1:lo+((0:Nat):Int) * 1=lo:=by simp
   have e2:(((hi - lo).toNat:Nat):Int) - ((0:Nat):Int)=Builtin.Range.rangeSize lo hi 1:=by rw[rangeSize_one]; split <;> lia
   show IsRangeIter _ _ (lo+((0:Nat):Int) * 1) ((((hi - lo).toNat:Nat):Int) - ((0:Nat):Int)) 1;rw[e1,e2];exact Hs _ rfl
 . have e:b=(s.heap.push { cls:=.type "range",data:=.fields (List.toArray [.int lo t,.int hi u,.int 1 v]) }).objs.size:=↑hb
   subst e;exact I1.fpOk (HY _) (I1.hok.fresh (HY _))
abbrev Bk (ta:TA):TI:=λσ H R=>ta σ H λvs H1=>∃j:Int,vs=[.int j]/\-(2 ^ 62)<=j/\j<2 ^ 62/\R (gE 0 j.toNat) H1
def cw {a:Expr} {ta:TA} {p:Pos}(hg:Gl X "range") (hm:X.mg "range"=none) (ha:PA X [a] ta) (hs:starEach [a] X.env=[(false,eval a X.env)]:=by rfl):PI X tg (.Call (.Name "range" p) [a] [] pos) (Bk ta):=by
 intro pins s σ H R I h;refine Call_ (fk I hg hm boot_range (Ie (aQ (ha pos pins s σ H _ I h) λus s1 z37_=>?_) hs rfl));let#[vs,H1,I1,r1,q1]:=z37_;let#[j,e,q1,q2,q]:=q1;subst e;cases r1 with
 | cons r rr =>
   cases rr;let#[t,rfl]:=r;exact call_range_1 (zy I1 ∅ ∅ q1 q2 ↑q)
abbrev CP (wi:TI) (g:TG) (tb:TS):TS:=λD σ H=>wi σ H λJ H1=>∃W:Nat->Nat->St->Hp->Prop,(∃m,W 0 m σ H1)/\∀i m σ H,W i m σ H ->
 (J.stop i H/\D.nx σ H)\/(J.go i H/\∃N:St->Hp->Prop,(∀σ' H',N σ' H'->∃m',m'<m/\W (i+1) m' σ' H')/\∀x H',J.yld i H x H'->g x σ H' λσ2 H2=>tb { D with nx:=N,ct:=N,bk:=D.nx } σ2 H2)
abbrev kL (fp:List L6) (h:Heap):List (L6×Obj):=fp.filterMap λb=>(h.get? b).map λo=>(b,o)
def mi {fp:List L6} {b:L6} {o:Obj} (hb:b∈fp) (e:h.get? b=⇑o):(b,o)∈kL fp h:=List.mem_filterMap.mpr #[b,hb,by rw[e]; rfl]
def Ef {fp:List L6} {p:L6×Obj} (hp:p∈kL fp h):p.1∈fp/\h.get? p.1=⇑p.2:=by
 let#[b,hb,e]:=List.mem_filterMap.mp hp;cases q:h.get? b with
 | none=>rw[q] at e; cases e
 | some o =>
   rw[q] at e;have e':(b,o)=p:=Option.some.inj e;subst e';show#[hb,q]
def Inv.pinned {fp:List L6} (I:Inv X pins σ H s) (hf:∀b∈fp,dq X pins H b) (ho:∀b∈fp,∃o,s.heap.get? b=⇑o/\∀v,o.data≠.cell v):Inv X (pins++kL fp s.heap) σ H s :=
 I.pins_of λp hp=>(IH.mp hp).elim (λz=>I.pin p (Hz _ z)) λz=>by let#[hb,e]:=Ef z;let#[f0,f1,f2,_]:=hf p.1 hb;let#[o,e',d]:=ho p.1 hb;rw[e] at e'; cases e';show#[e,f0,f1,f2,d]
def Inv.unpinned {pl:List (L6×Obj)}(I:Inv X (pins++pl) σ H s):Inv X pins σ H s:=I.pins_of λp hp=>I.pin p (Hz _ (Ik _ hp))
def bu {iter:Expr} {body:List Stmt} {wi:TI} (hp:PassesOwn 0x3 X.A X.env X.xe) (hc:X.calm=true) (hi:PI X tg iter wi) (hg:PG X tg g) (hb:aO X body tb)
   (hs:∀x,foldedSetIterable iter X.env x=pure x:=by intro _; rfl):PS X (.For tg iter body [] pos) (CP wi g tb):=by
 intro pins s σ H D I h;refine wpAny_For (aQ (hi pins s σ H _ I h) λv s1 h1=>aQ h1 λitv s2 h2=>?_) hs;obtain⟨it,fp,tn,J,H2,e,I2,T,gb,f2,W,⟨m0,w0⟩,turn⟩:=h2;subst e
 -- what stays true of the iterator's objects through the loop
 have stat:∀{H':Hp},(∀b∈fp,H' b=none)->∀b∈fp,dq X pins H' b:=λhn b hb=>#[hn b hb,(f2 b hb).2]
 refine codeAny_forLoop_any (λn s'=>∃i σ' H',Inv X pins σ' H' s'/\tn i s'.heap/\(∀b∈fp,H' b=none)/\W i n σ' H') ?_ m0 #[(0),σ,H2,I2,gb,λb hb=>(f2 b hb).1,w0];rintro n s3 ⟨i,σ3,H3,I3,st3,fr3,w3⟩;rcases turn i n σ3 H3 w3 with⟨stop,qn⟩|⟨go,N,hN,step⟩
 . refine Js hp (aQ (T.done X rfl rfl rfl hc i pins s3 σ3 H3 X.xe I3 (stat fr3) st3 stop) λr s4 z39_=>?_);let#[hr,I4]:=z39_;subst hr;exact JO #[σ3,H3,I4,qn]
 . refine Js hp (aQ (T.item X rfl rfl rfl hc i pins s3 σ3 H3 X.xe I3 (stat fr3) st3 go) λr s4 z40_=>?_);let#[u,hr,h4]:=z40_;subst hr;refine Js hp (aQ h4 λ_ s5 z41_=>?_);let#[x,H5,I5,r5,y5,st5,fr5]:=z41_;have I5':=I5.pinned (stat fr5) (T.obj _ _ st5);refine Js hp (aQ (hg _ s5 σ3 H5 x u _ I5' r5 (step x H5 y5)) λ_ s6 z42_=>?_);let#[σ6,H6,I6,q6]:=z42_;refine Js hp (aQ (hb _ s6 σ6 H6 _ I6 q6) λf s7 q7=>?_);have again:∀{σ7:St} {H7:Hp},Inv X (pins++kL fp s5.heap) σ7 H7 s7->N σ7 H7->∃m,m<n/\∃i σ' H',Inv X pins σ' H' s7/\tn i s7.heap/\(∀b∈fp,H' b=none)/\W i m σ' H':=λ{σ7 H7} I7 n7=>by let#[m',hm,w7]:=hN σ7 H7 n7;show#[m',hm,i+1,σ7,H7,I7.unpinned,T.keep _ _ _ st5 λb hb o e=>(I7.pin (b,o) (Hz _ (Hz _ (mi hb e)))).1,λb hb=>?_,w7];let#[o,e,d]:=T.obj _ _ st5 b hb;exact(I7.pin (b,o) (Hz _ (Hz _ (mi hb e)))).2.1
   cases f with
   | next=>let#[σ7,H7,I7,n7]:=q7; exact again I7 n7
   | cont=>let#[σ7,H7,I7,n7]:=q7; exact again I7 n7
   | brk=>let#[σ7,H7,I7,q7]:=q7; show#[σ7,H7,I7.unpinned,q7]
   | ret v=>let#[x7,σ7,H7,I7,r7,q7]:=q7; show#[x7,σ7,H7,I7.unpinned,r7,q7]
end
def gP {xs:List V} {D:c6} (Pv:Nat->St->Hp->Prop) (h0:Pv 0 σ H) (hl:∀i σ H,i<=xs.length->Pv i σ H->aE K H a xs)
   (hs:∀i x σ H,xs[i]?=⇑x->Pv i σ H->g x σ H λσ2 H2=>tb { D with nx:=Pv (i+1),ct:=Pv (i+1),bk:=D.nx } σ2 H2) (hd:∀σ H,Pv xs.length σ H->D.nx σ H) :
   ∃W:Nat->Nat->St->Hp->Prop,(∃m,W 0 m σ H)/\∀i m σ H,W i m σ H ->
     ((iI K a).stop i H/\D.nx σ H)\/((iI K a).go i H/\∃N:St->Hp->Prop,(∀σ' H',N σ' H'->∃m',m'<m/\W (i+1) m' σ' H')/\∀x H',(iI K a).yld i H x H'->g x σ H' λσ2 H2=>tb { D with nx:=N,ct:=N,bk:=D.nx } σ2 H2):=by
 show#[λi m σ H=>m=xs.length - i/\i<=xs.length/\Pv i σ H,#[xs.length,by simp,Hw _,h0],?_];rintro i m σ H ⟨rfl,hi,p⟩;have q:=hl i σ H hi p;by_cases hlt:i<xs.length
 . refine .inr #[#[xs,xs[i],q,by simp [hlt]],Pv (i+1),λσ' H' p'=>#[xs.length - (i+1),∅,rfl,hlt,p'],λx H' y=>?_];let#[e,y]:=y;subst e;exact hs i x σ _ (y xs q) p
 . have e:i=xs.length:=by lia
   subst e;exact .inl #[#[xs,q,HY _],hd σ H p]
def EN {xs:List V} {D:c6} (Pv:Nat->St->Hp->Prop) (h0:Pv 0 σ H) (hl:∀i σ H,i<=xs.length->Pv i σ H->aG K H a xs)
   (hs:∀i x σ H,xs[i]?=⇑x->Pv i σ H->g x σ H λσ2 H2=>tb { D with nx:=Pv (i+1),ct:=Pv (i+1),bk:=D.nx } σ2 H2) (hd:∀σ H,Pv xs.length σ H->D.nx σ H) :
   ∃W:Nat->Nat->St->Hp->Prop,(∃m,W 0 m σ H)/\∀i m σ H,W i m σ H ->
     ((iO K a).stop i H/\D.nx σ H)\/((iO K a).go i H/\∃N:St->Hp->Prop,(∀σ' H',N σ' H'->∃m',m'<m/\W (i+1) m' σ' H')/\∀x H',(iO K a).yld i H x H'->g x σ H' λσ2 H2=>tb { D with nx:=N,ct:=N,bk:=D.nx } σ2 H2):=by
 show#[λi m σ H=>m=xs.length - i/\i<=xs.length/\Pv i σ H,#[xs.length,by simp,Hw _,h0],?_];rintro i m σ H ⟨rfl,hi,p⟩;have q:=hl i σ H hi p;by_cases hlt:i<xs.length
 . refine .inr #[#[xs,xs[i],q,by simp [hlt]],Pv (i+1),λσ' H' p'=>#[xs.length - (i+1),∅,rfl,hlt,p'],λx H' y=>?_];let#[e,y]:=y;subst e;exact hs i x σ _ (y xs q) p
 . have e:i=xs.length:=by lia
   subst e;exact .inl #[#[xs,q,HY _],hd σ H p]
def fH {lo:Int} {n:Nat} {D:c6} (Pv:Nat->St->Hp->Prop) (h0:Pv 0 σ H)
   (hs:∀i σ H,i<n->Pv i σ H->g (.int (lo+i)) σ H λσ2 H2=>tb { D with nx:=Pv (i+1),ct:=Pv (i+1),bk:=D.nx } σ2 H2) (hd:∀σ H,Pv n σ H->D.nx σ H) :
   ∃W:Nat->Nat->St->Hp->Prop,(∃m,W 0 m σ H)/\∀i m σ H,W i m σ H ->
     ((gE lo n).stop i H/\D.nx σ H)\/((gE lo n).go i H/\∃N:St->Hp->Prop,(∀σ' H',N σ' H'->∃m',m'<m/\W (i+1) m' σ' H')/\∀x H',(gE lo n).yld i H x H'->g x σ H' λσ2 H2=>tb { D with nx:=N,ct:=N,bk:=D.nx } σ2 H2):=by
 show#[λi m σ H=>m=n - i/\i<=n/\Pv i σ H,#[n,by simp,Hw _,h0],?_];rintro i m σ H ⟨rfl,hi,p⟩;by_cases hlt:i<n
 . refine .inr #[hlt,Pv (i+1),λσ' H' p'=>#[n - (i+1),∅,rfl,hlt,p'],λx H' y=>?_];let#[e,y]:=y;subst e y;exact hs i σ _ hlt p
 . have e:i=n:=by lia
   subst e;exact .inl #[HY _,hd σ H p]
noncomputable abbrev R2:=V->V->Hp->VK->Prop
abbrev bS (X:Cx) (f:K'->K'->Sem K') (r:R2):Prop :=
 ∀(pins:List (L6×Obj)) (s:L5) (σ:St) (H:Hp) (x y:V) (v u:K') (Q:VK),Inv X pins σ H s->aX x v->aX y u->r x y H Q ->
   wpAny 0x3 X.A (f v u) (EP X pins σ Q) X.xe s
abbrev qB (X:Cx) (f:K'->Sem K') (r:V->Hp->VK->Prop):Prop :=
 ∀(pins:List (L6×Obj)) (s:L5) (σ:St) (H:Hp) (x:V) (v:K') (Q:VK),Inv X pins σ H s->aX x v->r x H Q ->
   wpAny 0x3 X.A (f v) (EP X pins σ Q) X.xe s
abbrev aw (X:Cx) (f:K') (r:List V->Hp->VK->Prop):Prop :=
 ∀(pins:List (L6×Obj)) (s:L5) (σ:St) (H:Hp) (xs:List V) (us:List K') (Q:VK),Inv X pins σ H s->aU xs us->r xs H Q ->
   wpAny 0x3 X.A (call f us) (EP X pins σ Q) X.xe s
abbrev FX (X:Cx) (r:V->Hp->(Bool->Hp->Prop)->Prop):Prop :=
 ∀(pins:List (L6×Obj)) (s:L5) (σ:St) (H:Hp) (x:V) (v:K') (Q:Bool->Hp->Prop),Inv X pins σ H s->aX x v->r x H Q ->
   wpAny 0x3 X.A (truthy v) (TP X pins σ Q) X.xe s
abbrev gT (r:R2) (ta tb:TE):TE:=λσ H Q=>ta σ H λx H1=>tb σ H1 λy H2=>r x y H2 Q
abbrev tUn (r:V->Hp->VK->Prop) (ta:TE):TE:=λσ H Q=>ta σ H λx H1=>r x H1 Q
abbrev rI (C:Int->Int->Prop) (g:Int->Int->V):R2:=λx y H Q=>∃i j,x=.int i/\y=.int j/\C i j/\Q (g i j) H
abbrev fU (g:Int->Int->V):R2:=λx y H Q=>∃i j,x=.int i/\y=.int j/\Q (g i j) H
abbrev rU (g:Int->V):V->Hp->VK->Prop:=λx H Q=>∃i,x=.int i/\Q (g i) H
section
variable {X:Cx} {a b c:Expr} {ta tb tc:TE} {pos:Pos}
def pN (ha:PE X a ta) (hb:PE X b tb) {R:V->V->Hp->Prop} (I:Inv X pins σ H s)
   (h:ta σ H λx H1=>tb σ H1 λy H2=>R x y H2) {Q:K'->L5->Prop} {f:K'->K'->Sem K'}
   (hf:∀v u s2 x y H2,Inv X pins σ H2 s2->aX x v->aX y u->R x y H2->wpAny 0x3 X.A (f v u) Q X.xe s2) :
   wpAny 0x3 X.A (eval a X.env) (λv s₁=>wpAny 0x3 X.A (eval b X.env) (λu s₂=>wpAny 0x3 X.A (f v u) Q X.xe s₂) X.xe s₁) X.xe s:=by
 refine aQ (ha pins s σ H _ I h) λv s1 z44_=>?_;let#[x,H1,I1,r1,q1]:=z44_;refine aQ (hb pins s1 σ H1 _ I1 q1) λu s2 z45_=>?_;let#[y,H2,I2,r2,q2]:=z45_;exact hf v u s2 x y H2 I2 r1 r2 q2
def aL {op:Operator} {r:R2} (ho:bS X (binaryOp op) r) (ha:PE X a ta) (hb:PE X b tb):PE X (.BinOp a op b pos) (gT r ta tb):=by intro pins s σ H Q I h;exact wpAny_BinOp (pN ha hb I h λv u s2 x y H2 I2 rx ry q=>ho pins s2 σ H2 x y v u Q I2 rx ry q)
def eh {op:UnaryOp} {r:V->Hp->VK->Prop} (ho:qB X (unaryOp op) r) (ha:PE X a ta):PE X (.UnaryOp op a pos) (tUn r ta):=by intro pins s σ H Q I h;exact UnaryOp_ (aQ (ha pins s σ H _ I h) λv s1 z46_=>by let#[x,H1,I1,r1,q1]:=z46_; exact ho pins s1 σ H1 x v Q I1 r1 q1)
def ju {f:K'->K'->Sem K'} {C:Int->Int->Prop} {g:Int->Int->Int}
   (rule:∀(i j:Int) (t u:Tok) (s:L5) (Q:K'->L5->Prop) (E:K'->L5->Prop),C i j->Q (.int (g i j) s.toks) { s with toks:=s.toks+1 }->wpAny 0x3 X.A (f (.int i t) (.int j u)) Q E s) :
   bS X f (rI C λi j=>.int (g i j)):=by
 intro pins s σ H x y v u Q I rx ry h;let#[i,j,rfl,rfl,hc,q]:=h;let#[t,rfl]:=rx;let#[t',rfl]:=ry;exact rule i j t t' s _ _ hc #[.int (g i j),H,I.tok _,#[5],q]
def lF {f:K'->K'->Sem K'} {g:Int->Int->Int}
   (rule:∀(i j:Int) (t u:Tok) (s:L5) (Q:K'->L5->Prop) (E:K'->L5->Prop),Q (.int (g i j) s.toks) { s with toks:=s.toks+1 }->wpAny 0x3 X.A (f (.int i t) (.int j u)) Q E s) :
   bS X f (fU λi j=>.int (g i j)):=by
 intro pins s σ H x y v u Q I rx ry h;let#[i,j,rfl,rfl,q]:=h;let#[t,rfl]:=rx;let#[t',rfl]:=ry;exact rule i j t t' s _ _ #[.int (g i j),H,I.tok _,#[5],q]
def w5 {f:K'->K'->Sem K'} {g:Int->Int->Bool}
   (rule:∀(i j:Int) (t u:Tok) (s:L5) (Q:K'->L5->Prop) (E:K'->L5->Prop),Q (.bool (g i j)) s->wpAny 0x3 X.A (f (.int i t) (.int j u)) Q E s) :
   bS X f (fU λi j=>.bl (g i j)):=by
 intro pins s σ H x y v u Q I rx ry h;let#[i,j,rfl,rfl,q]:=h;let#[t,rfl]:=rx;let#[t',rfl]:=ry;exact rule i j t t' s _ _ #[.bl (g i j),H,I,rfl,q]
abbrev Er (i j:Int):Prop:=0<j/\j<1073741824
abbrev D7 (i j:Int):Prop:=0<=j/\j<=1000000/\i.natAbs<2 ^ 64
abbrev oX (i j:Int):Prop:=(-(2 ^ 64)<i/\i<2 ^ 64)\/(-(2 ^ 64)<j/\j<2 ^ 64)
def oX.ok {i j:Int} (h:oX i j):IntMulOk i j:=by
 rcases h with⟨h1,h2⟩|⟨h1,h2⟩
 . exact .of_left (intBits_le_64 h1 h2)
 . exact .of_right (intBits_le_64 h1 h2)
def bc:bS X (binaryOp .Add) (fU λi j=>.int (i+j)):=lF λ_ _ _ _ _ _ _ q=>add_int q
def fq:bS X (binaryOp .Sub) (fU λi j=>.int (i - j)):=lF λ_ _ _ _ _ _ _ q=>sub_int q
def fX:bS X (binaryOp .Mult) (rI oX λi j=>.int (i * j)):=ju λ_ _ _ _ _ _ _ hc q=>mul_int q hc.ok
def cK:bS X (binaryOp .FloorDiv) (rI Er λi j=>.int (i / j)):=ju λi j _ _ _ _ _ hc q=>by have h1:(0:Int)<j:=hc.1;have h2:j<1073741824:=hc.2;exact floordiv_int ∅ (by rw[KZ i ∅]; exact q) (.inl (PyProof.noPylong_small ∅))
def bH:bS X (binaryOp .Mod) (rI (λ_ j=>0<j) λi j=>.int (i%j)):=ju λi j _ _ _ _ _ hc q=>by have h1:(0:Int)<j:=hc;exact mod_int' ∅ (by rw[Int.fmod_eq_emod_of_nonneg i ∅]; exact q)
def iq:bS X (binaryOp .Pow) (rI D7 λi j=>.int (i ^ j.toNat)):=ju λ_ _ _ _ _ _ _ hc q=>pow_int_small hc.1 hc.2.1 hc.2.2 q
def vM:bS X (binaryOp .BitAnd) (fU λi j=>.int (Builtin.bitAnd i j)):=lF λ_ _ _ _ _ _ _ q=>and_int q
def wV:bS X (binaryOp .BitOr) (fU λi j=>.int (Builtin.bitOr i j)):=lF λ_ _ _ _ _ _ _ q=>or_int q
def wP:bS X (binaryOp .BitXor) (fU λi j=>.int (Builtin.bitXor i j)):=lF λ_ _ _ _ _ _ _ q=>xor_int q
def unI {f:K'->Sem K'} {g:Int->Int}
   (rule:∀(i:Int) (t:Tok) (s:L5) (Q:K'->L5->Prop) (E:K'->L5->Prop),Q (.int (g i) s.toks) { s with toks:=s.toks+1 }->wpAny 0x3 X.A (f (.int i t)) Q E s) :
   qB X f (rU λi=>.int (g i)):=by
 intro pins s σ H x v Q I rx h;let#[i,rfl,q]:=h;let#[t,rfl]:=rx;exact rule i t s _ _ #[.int (g i),H,I.tok _,#[5],q]
def fE:qB X (unaryOp .USub) (rU λi=>.int (-i)):=unI λ_ _ _ _ _ q=>neg_int q
end
abbrev u9:V->V->Bool
 | .non,.non=>true | .non,.int _=>true | .int _,.non=>true | .non,.bl _=>true | .bl _,.non=>true | .non,.str _=>true | .str _,.non=>true
 | .int _,.int _=>true | .bl _,.bl _=>true | .str _,.str _=>true | .byt _,.byt _=>true
 | .int _,.str _=>true | .str _,.int _=>true | .bl _,.str _=>true | .str _,.bl _=>true
 | _,_=>false
abbrev rEq:R2:=λx y H Q=>u9 x y=true/\Q (.bl (decide (x=y))) H
abbrev rNe:R2:=λx y H Q=>u9 x y=true/\Q (.bl (!decide (x=y))) H
def wM {i j:Int}:decide (V.int i=V.int j)=(i==j):=by rw[JD];simp
def sU {i j:Bool}:decide (V.bl i=V.bl j)=(i==j):=by rw[JD];simp
def sI {i j:Str}:decide (V.str i=V.str j)=(i==j):=by rw[JD];simp
def u6 {i j:Array UInt8}:decide (V.byt i=V.byt j)=(i.toList==j.toList):=by rw[JD];cases i;cases j;simp
section
variable {X:Cx} {a b c:Expr} {ta tb tc:TE} {pos:Pos}
def bj {Q:VK} {k k':Bool} (I:Inv X pins σ H s) (q:Q (.bl k) H) (e:k=k'):EP X pins σ Q (.bool k') s:=by subst e;show#[.bl k,H,I,rfl,q]
def bB:bS X (compareOp .Eq) rEq:=by
 intro pins s σ H x y v u Q I rx ry h;let#[hs,q]:=h;cases x with
 | non =>
   cases rx;cases y with
   | non=>cases ry; exact PySem.EqNone.eq_none_none (bj I q 0x8)
   | bl j=>cases ry; exact PySem.EqNone.eq_none_bool (bj I q 0x8)
   | int j=>let#[t',rfl]:=ry; exact PySem.EqNone.eq_none_int (bj I q 0x8)
   | str j=>let#[t',rfl]:=ry; exact PySem.EqNone.eq_none_str (bj I q 0x8)
   | _=>exact absurd (show false=true from hs) Ho
 | bl i =>
   cases rx;cases y with
   | non=>cases ry; exact PySem.EqNone.eq_bool_none (bj I q 0x8)
   | bl j=>cases ry; exact eq_bool (bj I q sU)
   | str j=>let#[t',rfl]:=ry; exact PySem.EqMixed.eq_bool_str (bj I q 0x8)
   | _=>exact absurd (show false=true from hs) Ho
 | int i =>
   let#[t,rfl]:=rx;cases y with
   | non=>cases ry; exact PySem.EqNone.eq_int_none (bj I q 0x8)
   | int j=>let#[t',rfl]:=ry; exact eq_int (bj I q wM)
   | str j=>let#[t',rfl]:=ry; exact PySem.EqMixed.eq_int_str (bj I q 0x8)
   | _=>exact absurd (show false=true from hs) Ho
 | str i =>
   let#[t,rfl]:=rx;cases y with
   | non=>cases ry; exact PySem.EqNone.eq_str_none (bj I q 0x8)
   | bl j=>cases ry; exact PySem.EqMixed.eq_str_bool (bj I q 0x8)
   | int j=>let#[t',rfl]:=ry; exact PySem.EqMixed.eq_str_int (bj I q 0x8)
   | str j=>let#[t',rfl]:=ry; exact eq_str (bj I q sI)
   | _=>exact absurd (show false=true from hs) Ho
 | byt i =>
   let#[t,rfl]:=rx;cases y with
   | byt j=>let#[t',rfl]:=ry; exact PySem.W.eq_bytes (bj I q u6)
   | _=>exact absurd (show false=true from hs) Ho
 | _=>cases y <;> exact absurd (show false=true from hs) Ho
def jS:bS X (compareOp .NotEq) rNe:=by
 intro pins s σ H x y v u Q I rx ry h;let#[hs,q]:=h;cases x with
 | non =>
   cases rx;cases y with
   | non=>cases ry; exact PySem.EqNone.ne_none_none (bj I q 0x8)
   | bl j=>cases ry; exact PySem.EqNone.ne_none_bool (bj I q 0x8)
   | int j=>let#[t',rfl]:=ry; exact PySem.EqNone.ne_none_int (bj I q 0x8)
   | str j=>let#[t',rfl]:=ry; exact PySem.EqNone.ne_none_str (bj I q 0x8)
   | _=>exact absurd (show false=true from hs) Ho
 | bl i =>
   cases rx;cases y with
   | non=>cases ry; exact PySem.EqNone.ne_bool_none (bj I q 0x8)
   | bl j=>cases ry; exact ne_bool (bj I q (Hr not sU))
   | str j=>let#[t',rfl]:=ry; exact PySem.EqMixed.ne_bool_str (bj I q 0x8)
   | _=>exact absurd (show false=true from hs) Ho
 | int i =>
   let#[t,rfl]:=rx;cases y with
   | non=>cases ry; exact PySem.EqNone.ne_int_none (bj I q 0x8)
   | int j=>let#[t',rfl]:=ry; exact ne_int (bj I q (Hr not wM))
   | str j=>let#[t',rfl]:=ry; exact PySem.EqMixed.ne_int_str (bj I q 0x8)
   | _=>exact absurd (show false=true from hs) Ho
 | str i =>
   let#[t,rfl]:=rx;cases y with
   | non=>cases ry; exact PySem.EqNone.ne_str_none (bj I q 0x8)
   | bl j=>cases ry; exact PySem.EqMixed.ne_str_bool (bj I q 0x8)
   | int j=>let#[t',rfl]:=ry; exact PySem.EqMixed.ne_str_int (bj I q 0x8)
   | str j=>let#[t',rfl]:=ry; exact ne_str (bj I q (Hr not sI))
   | _=>exact absurd (show false=true from hs) Ho
 | byt i =>
   let#[t,rfl]:=rx;cases y with
   | byt j=>let#[t',rfl]:=ry; exact PySem.W.ne_bytes (bj I q (Hr not u6))
   | _=>exact absurd (show false=true from hs) Ho
 | _=>cases y <;> exact absurd (show false=true from hs) Ho
def jJ:bS X (compareOp .Lt) (fU λi j=>.bl (decide (i<j))):=w5 λ_ _ _ _ _ _ _ q=>lt_int q
def AG:bS X (compareOp .Gt) (fU λi j=>.bl (decide (j<i))):=w5 λ_ _ _ _ _ _ _ q=>gt_int q
def ag (b:Expr) (h:op≠.In:=by decide) (h2:op≠.NotIn:=by decide):behindInMarks op b=false:=by
 have e1:(op==CmpOp.In)=false:=by cases op <;> first|rfl|exact absurd rfl h
 have e2:(op==CmpOp.NotIn)=false:=by cases op <;> first|rfl|exact absurd rfl h2
 cases b <;> simp [behindInMarks,e1,e2]
def gQ {r:R2} (ho:bS X (compareOp op) r) (ha:PE X a ta) (hb:PE X b tb) (hm:behindInMarks op b=false):PE X (.Compare a [op] [b] pos) (gT r ta tb):=by intro pins s σ H Q I h;exact wpAny_Compare1 (pN ha hb I h λv u s2 x y H2 I2 rx ry q=>ho pins s2 σ H2 x y v u Q I2 rx ry q) hm
abbrev Cy (t:TE):TT:=λσ H Q=>t σ H λx H'=>∃k,x=.bl k/\Q k H'
def jO {r:R2} (ho:bS X (compareOp op) r) (ha:PE X a ta) (hb:PE X b tb) (hm:behindInMarks op b=false):PT X (.Compare a [op] [b] pos) (Cy (gT r ta tb)):=by
 intro pins s σ H Q I h;refine KA (aQ (ha pins s σ H _ I h) λv s1 ⟨x,H1,I1,r1,q1⟩=>aQ (hb pins s1 σ H1 _ I1 q1) λu s2 ⟨y,H2,I2,r2,q2⟩ =>
   aQ (ho pins s2 σ H2 x y v u _ I2 r1 r2 q2) λc s3 ⟨z,H3,I3,r3,k,e,q3⟩=>?_) hm
 subst e;cases r3;exact JH #[H3,I3,q3]
abbrev oY (K:L7) (x:V) (H:Hp) (k:Bool):Prop :=
 match x with
 | .non=>k=false
 | .bl b=>k=b
 | .int i=>k=(i != 0)
 | .str y=>y.length<=sizeLine/\k=((y.length:Int) != 0)
 | .byt y=>y.size<=sizeLine/\k=((y.size:Int) != 0)
 | .ref p=>(∃xs,aE K H p xs/\k=!xs.isEmpty)\/(∃xs,aG K H p xs/\k=!xs.isEmpty)\/∃kvs,H p=⇑(.dK kvs)/\k=!kvs.isEmpty
 | _=>False
def BS {κ:Type} {kvs:List (κ×V)} {vs:List (κ×K')} (r:KV kvs vs):(!vs.isEmpty)=!kvs.isEmpty:=by cases r <;> rfl
def uX {xs:List V} {its:List K'} (r:aU xs its):(!its.toArray.isEmpty)=!xs.isEmpty:=by cases r <;> simp
def ir:(sizeLine:Nat)<2 ^ 63:=by rw[sizeLine_eq]; decide
def BO:FX X (λx H Q=>∃k,oY X.K x H k/\Q k H):=by
 intro pins s σ H x v Q I rx h;let#[k,e,q]:=h;have hl:=ir;have hs:sizeLine=16777216:=sizeLine_eq;cases x with
 | non =>
   cases rx;have e':k=false:=e;subst e';exact truthy_none #[H,I,q]
 | bl b =>
   cases rx;have e':k=b:=e;subst e';exact JH #[H,I,q]
 | int i =>
   let#[t,rfl]:=rx;have e':k=(i != 0):=e;subst e';exact PySem.P.truthy_int #[H,I,q]
 | str y =>
   let#[t,rfl]:=rx;obtain⟨hy,e'⟩:y.length<=sizeLine/\k=((y.length:Int) != 0):=e;subst e';exact PySem.P.truthy_str ∅ #[H,I.tok _,q]
 | byt y =>
   let#[t,rfl]:=rx;obtain⟨hy,e'⟩:y.size<=sizeLine/\k=((y.size:Int) != 0):=e;subst e';exact PySem.W.truthy_bytes ∅ #[H,I.tok _,q]
 | ref p =>
   cases rx;have e':(∃xs,aE X.K H p xs/\k=!xs.isEmpty)\/(∃xs,aG X.K H p xs/\k=!xs.isEmpty)\/∃kvs,H p=⇑(.dK kvs)/\k=!kvs.isEmpty:=e;rcases e' with⟨xs,hx,e'⟩|⟨xs,hx,e'⟩|⟨kvs,hx,e'⟩
   . subst e';let#[its,r,pl,hz]:=I.list hx;have hlen:=r.length;exact wpAny_truthy_list pl.isList (by simp only[Hn]; lia) #[H,I.tok _,by rw[uX r]; exact q]
   . subst e';let#[its,r,pl,hz]:=I.tuple hx;have hlen:=r.length;exact truthy_tuple pl (by simp only[Hn]; lia) #[H,I.tok _,by rw[uX r]; exact q]
   . subst e';obtain⟨hz,hS,vs,r,m⟩:kvs.length<=sizeLine/\(p==sysModules)=false/\∃vs,KV kvs vs/\s.heap.DictOf (br X.prog X.w) p vs:=I.hok p _ hx;have hlen:kvs.length=vs.length:=Paired.length r;exact wpAny_truthy_dict hS m ∅ #[H,I.tok _,by rw[BS r]; exact q]
 | _=>exact(show False from e).elim
def Aa (ha:PE X a ta) (he:∀whole,isTrue a X.env whole=(do let v <- whole; standAt a.pos; holding [v] (truthy v))) :
   PT X a (λσ H Q=>ta σ H λx H'=>∃k,oY X.K x H' k/\Q k H'):=by
 intro pins s σ H Q I h;exact isTrue_plain (aQ (ha pins s σ H _ I h) λv s1 z59_=>by let#[x,H1,I1,r1,q1]:=z59_; exact BO pins s1 σ H1 x v Q I1 r1 q1) (he _)
def mQ:bS X (binaryOp .Add) (λx y H Q=>∃i j,x=.str i/\y=.str j/\i.length+j.length<=sizeLine/\Q (.str (i++j)) H):=by intro pins s σ H x y v u Q I rx ry h;let#[i,j,rfl,rfl,hz,q]:=h;let#[t,rfl]:=rx;let#[t',rfl]:=ry;exact add_str (λt' tk=>#[.str (i++j),H,I.tok _,#[5],q]) hz
def gK {x:V} (r:aU [x] us):∃u,us=[u]/\aX x u:=by
 cases r with
 | cons r1 r2=>cases r2; show#[5,r1]
def oV {x y:V} (r:aU [x,y] us):∃u w',us=[u,w']/\aX x u/\aX y w':=by
 cases r with
 | cons r1 r2 =>
   cases r2 with
   | cons r3 r4=>cases r4; show#[9,r1,r3]
def pK:aw X (.type "int") (λxs H Q=>(∃i,xs=[.int i]/\Q (.int i) H)\/∃k,xs=[.bl k]/\Q (.int (if k then 1 else 0)) H):=by
 intro pins s σ H xs us Q I r h;rcases h with⟨i,rfl,q⟩|⟨k,rfl,q⟩
 . let#[u,rfl,t,rfl]:=gK r;exact call_int_int #[.int i,H,I,#[5],q]
 . let#[u,rfl,r1]:=gK r;cases r1;exact call_int_bool #[.int (if k then 1 else 0),H,I.tok _,#[5],q]
end
structure ObjM (h:Heap) (x dx C:Addr) (mA:Str->Option Value):Prop where
 obj:h.get? x=⇑(PySem.W.instObj C dx)
 ns:h.Ns1 dx mA
 ne:dx≠x
def zV {dx:L6} {mA:Str->Hl K'} (n:h.Ns1 dx mA):∃od,h.get? dx=⇑od/\∀name,PySem.W.lookIn name od=⇑(mA name):=by
 let#[o,es,ep,ho,hd,hk,_,hm]:=n;show#[o,ho,λname=>?_];have e:=hm name;unfold nsFind findBy at e;rw[<- Array.find?_toList] at e;unfold PySem.W.lookIn;rw[hd];dsimp only;split
 . rename_i y q
   rw[q] at e;exact Hr some e
 . rename_i q
   rw[q] at e;have a:es.toList.any (·.refKey)=false:=by rw[List.any_eq_false];intro y hy;let#[z,t,hkey]:=hk y (Array.mem_toList_iff.mp hy);simp [DictEntry.refKey,hkey]
   have a':¬ es.toList.any (·.refKey)=true:=by rw[a]; exact Ho
   rw[HX a'];exact Hr some e
variable {C:L6}
def ObjM.look {x dx:L6}{mA:Str->Hl K'} (I:ObjM h x dx C mA):∃od,PySem.W.InstAt h x (PySem.W.instObj C dx) C ⇑od/\∀name,PySem.W.lookIn name od=⇑(mA name) :=
 let ⟨od,ho,hl⟩:=zV I.ns
 #[od,#[I.obj,7,ho],hl]
variable {pl:Sem Bool}
section
variable {prog:Program} {w:World} {A:Around} {E:K'->L5->Prop} {s:L5} {K:L7} {x dx C f:L6} {mA:Str->Hl K'} {name:Str} {v:K'}
def E8 {expr:Bool} {Q:K'->L5->Prop} (X:K.In s.heap) (I:ObjM s.heap x dx C mA) (hg:PySem.W.plainGet K C name=true) (hh:PySem.W.hasDictIn K C=true)
   (ha:PySem.W.findIn K ↥C name=⇑none) (hv:mA name=⇑v) (hv':PySem.W.handedIn v=true) (h:Q v { s with toks:=s.toks+1 }) :
   wpAny 0x6 A (getAttr ↥x name expr) Q E s:=by
 let#[od,J,hl]:=I.look;exact PySem.W.get_value X J (PySem.W.plainGet_of hg).1 (PySem.W.findObj_own hh ha rfl (by rw[hl,hv])) hv' h
def Do {Q:K'×List K'->L5->Prop} (X:K.In s.heap) (I:ObjM s.heap x dx C mA) (hg:PySem.W.plainGet K C name=true)
   (hf:PySem.W.findIn K ↥C name=⇑⇑↥f) (ht:PySem.W.isFn K ↥f=true) (hv:mA name=none) (h:Q (↥f,[↥x]) s) :
   wpAny 0x6 A (getMethod ↥x name pl) Q E s:=by
 let#[od,J,hl]:=I.look;exact PySem.W.method_fn X J (PySem.W.plainGet_of hg).1 (PySem.W.plainGet_of hg).2 hf (beq_iff_eq.mp ht) (by show(PySem.W.lookIn name od).map (·.isSome)=⇑false; rw[hl,hv]; rfl) h
def Bn {ns:List Str} {Q:Unit->L5->Prop} (X:K.In s.heap) (I:ObjM s.heap x dx C mA)
   (hs:PySem.W.findIn K ↥C "__setattr__"=⇑⇑(.builtin "object.__setattr__")) (hp:PySem.W.plainOver K C=true) (ht:PySem.W.takerIn K C name=⇑none) (hh:PySem.W.hasDictIn K C=true)
   (hw:PySem.Within mA ns) (hsz:ns.length<=sizeLine)
   (h:∀h',ObjM h' x dx C (λy=>if y=name then ⇑v else mA y)->Heap.SameBut dx s.heap h'->Q () { s with heap:=h',toks:=s.toks+2 }) :
   wpAny 0x6 A (setAttr ↥x name v) Q E s:=by
 let#[od,J,hl]:=I.look;refine PySem.W.set_plain X J hs (PySem.W.osa_open (s:={ s with toks:=s.toks+1 }) (r:=none) X J hp ht λb=>?_);let#[cd,hc,hd']:=PySem.W.any_some hh;have hx:s.heap.get? x=some ⟨↥C,⇑dx,.plain,0xC⟩:=I.obj;refine HR (Ha (HR (HR (Kv hx (HR (PySem.W.Looks.here (s:={ s with toks:=s.toks+1 }) (PySem.W.looks_clsIn X hc) ?_))))));rw[hd'];refine Ha (a:=⇑dx) (HR (Ha (HR ?_)));refine wpAny_nsSet1 (s:={ s with toks:=s.toks+1 }) I.ns λh' hn2 hs2=>?_;let#[oD,esD,epD,hoD,hdD,hcD]:=hn2.count (PySem.Within.cons name v hw);refine HR (wpAny_lookBehind hoD (by rw[hdD]; exact pastItsLine_dict (Hu hcD (by rw[II]; lia))) ?_);exact Ha (h _ #[(hs2.2 _ (Ne.symm I.ne))\I.obj,hn2,I.ne] hs2)
def zr {R:Result->L5->Prop} {vs:List K'} {kw:List (Str×K')} (X:K.In s.heap) (hm:PySem.W.makesIn K C=true)
   (hi:PySem.W.findIn K ↥C "__init__"=⇑⇑↥f) (hf:PySem.W.typeIn K ↥f=⇑(.type "function"))
   (h:codeAny 0x6 (A.under (.builtin "type.__call__" #[↥C::vs,kw])) (.call ↥f #[↥(s.heap.objs.size+1)::vs,kw]) (PySem.W.InitBack (s.heap.objs.size+1) R)
     { s with heap:=(s.heap.push PySem.W.emptyDict).push (PySem.W.instObj C s.heap.objs.size) }) :
   codeAny 0x6 A (.call ↥C #[vs,kw]) R s:=by
 let#[hh,g,d,t,os]:=s;exact PySem.W.make_core (PySem.W.makes_of X hm) (PySem.W.looks_findIn X hi) (λself=>PySem.W.bind_fn X self hf) (.inl rfl) h
end
abbrev bT (f:Str) (v:V):List (Str×V)->List (Str×V)
 | []=>[(f,v)]
 | (g,x)::r=>if g=f then(g,v)::r else(g,x)::bT f v r
def bt (f g:Str) (v:V):∀fs:List (Str×V),(bT f v fs).lookup g=if g=f then ⇑v else fs.lookup g
 | []=>by
   show List.lookup g [(f,v)]=_;by_cases h:g=f
   . have hb:(g==f)=true:=beq_iff_eq.mpr h;simp only[List.lookup,hb,He h]
   . have hb:(g==f)=false:=beq_eq_false_iff_ne.mpr h;simp only[List.lookup,hb,HX h]
 | (k,x)::r=>by
   have ih:=bt f g v r;rw[show bT f v ((k,x)::r)=(if k=f then(k,v)::r else(k,x)::bT f v r) from rfl];by_cases hk:k=f
   . rw[He hk];by_cases h:g=k
     . have hb:(g==k)=true:=beq_iff_eq.mpr h;simp only[List.lookup,hb,He (h\hk)]
     . have hb:(g==k)=false:=beq_eq_false_iff_ne.mpr h;simp only[List.lookup,hb,HX (λe:g=f=>h (e\hk.symm))]
   . rw[HX hk];by_cases h:g=k
     . have hb:(g==k)=true:=beq_iff_eq.mpr h;simp only[List.lookup,hb,HX (λe:g=f=>hk (h.symm\e))]
     . have hb:(g==k)=false:=beq_eq_false_iff_ne.mpr h;simp only[List.lookup,hb];exact ih
def pi (f:Str) (v:V):∀fs:List (Str×V),f∈(bT f v fs).map (·.1)/\∀g,g∈fs.map (·.1)->g∈(bT f v fs).map (·.1)
 | []=>#[by simp [bT],λg h=>by simp at h]
 | (k,x)::r=>by
   let#[i1,i2]:=pi f v r;rw[show bT f v ((k,x)::r)=(if k=f then(k,v)::r else(k,x)::bT f v r) from rfl];by_cases hk:k=f
   . rw[He hk];subst hk;show#[by simp,λg h=>by simpa using h]
   . rw[HX hk];show#[?_,λg h=>?_]
     . rw[IF];exact Hv _ i1
     . rw[IF] at h ⊢;rcases Hh.mp h with e|e
       . exact Hh.mpr (.inl e)
       . exact Hv _ (i2 g e)
def oC (f:Str) (v:V):∀fs:List (Str×V),(bT f v fs).length<=fs.length+1
 | []=>by simp [bT]
 | (k,x)::r=>by
   have ih:=oC f v r;rw[show bT f v ((k,x)::r)=(if k=f then(k,v)::r else(k,x)::bT f v r) from rfl];by_cases hk:k=f
   . rw[He hk,II,II]; lia
   . rw[HX hk,II,II]; lia
def d8.some_of {o:Hl K'} (r:d8 ⇑v o):∃u,o=⇑u/\aX v u:=by
 cases o with
 | none=>exact(show False from r).elim
 | some u=>show#[u,rfl,r]
def d8.none_of {o:Hl K'} (r:d8 none o):o=none:=by
 cases o with
 | none=>rfl
 | some u=>exact(show False from r).elim
def Fi (r:aX v u):PySem.W.handedIn u=true:=by
 cases v with
 | non=>cases (show u=Value.none from r); rfl
 | bl b=>cases (show u=Value.bool b from r); rfl
 | int i=>let#[t,e]:=(show ∃t,u=Value.int i t from r); cases e; rfl
 | str x=>let#[t,e]:=(show ∃t,u=Value.str x t from r); cases e; rfl
 | byt b=>let#[t,e]:=(show ∃t,u=Value.bytes b t from r); cases e; rfl
 | flt b=>let#[t,e]:=(show ∃t,u=Value.float b t from r); cases e; rfl
 | ref a=>cases (show u=Value.ref a from r); rfl
 | ty n=>cases (show u=Value.type n from r); rfl
section
variable {P:Program} {w:World} {H H':Hp} {h h':Heap} {a C dx:L6} {fs fs':List (Str×V)}
def m6 (hok:bE P w H h) (e:H a=⇑(.ins C dx fs)):∃mA,ObjM h a dx C mA/\(∀f,d8 (fs.lookup f) (mA f))/\PySem.Within mA (fs.map (·.1))/\fs.length<=1000/\H dx=⇑(.own a):=by
 let#[d,z,ne,ob,mA,n,r,q]:=(show bX P w H h a (.ins C dx fs) from hok a _ e)
 show#[mA,#[ob,n,ne],r,q,z,d]
end
structure Cls (K:W.Frag) (C:Addr):Prop where
 pg:PySem.W.plainGet K C Str.empty=true
 hd:PySem.W.hasDictIn K C=true
 po:PySem.W.plainOver K C=true
 sa:PySem.W.findIn K ↥C "__setattr__"=⇑⇑(.builtin "object.__setattr__")
def Cls.get {K:L7} {C:L6} (c:Cls K C) (f:Str):PySem.W.plainGet K C f=true:=c.pg
abbrev cH (K:L7) (C:L6) (f:Str):Prop:=PySem.W.findIn K ↥C f=⇑none
def cH.taker {f:Str} (n:cH K C f):PySem.W.takerIn K C f=⇑none:=by unfold PySem.W.takerIn;rw[show PySem.W.findIn K ↥C f=⇑none from n];rfl
structure Meth (K:W.Frag) (C:Addr) (m:Str) (f:Addr):Prop where
 at_:PySem.W.findIn K ↥C m=⇑⇑↥f
 fn:PySem.W.isFn K ↥f=true
 kp:PySem.W.keepIn K ↥f=true
section
variable {X:Cx} {pins:List (L6×Obj)} {σ:St} {H:Hp} {s:L5} {a C dx:L6} {fs:List (Str×V)} {f:Str} {v:V} {A:Around} {E:K'->L5->Prop}
def Gg {b:Bool} {Q:K'->L5->Prop} (I:Inv X pins σ H s) (e:H a=⇑(.ins C dx fs)) (c:Cls X.K C) (n:cH X.K C f) (l:fs.lookup f=⇑v)
   (h:∀u s',Inv X pins σ H s'->aX v u->Q u s'):wpAny 0x3 A (getAttr ↥a f b) Q E s:=by
 let#[mA,O,r,_,_,_]:=m6 I.hok e;let#[u,hu,ru]:=d8.some_of (v:=v) (o:=mA f) (by rw[<- l]; exact r f);exact E8 I.kIn O (c.get f) c.hd n hu (Fi ru) (h u _ (I.tok _) ru)
def ky {m:Str} {g:L6} {Q:K'×List K'->L5->Prop} (I:Inv X pins σ H s) (e:H a=⇑(.ins C dx fs)) (c:Cls X.K C) (k:Meth X.K C m g) (l:fs.lookup m=none)
   (h:Q (↥g,[↥a]) s):wpAny 0x3 A (getMethod ↥a m pl) Q E s:=by
 let#[mA,O,r,_,_,_]:=m6 I.hok e;have hn:mA m=none:=d8.none_of (by rw[<- l]; exact r m);exact Do I.kIn O (c.get m) k.at_ k.fn hn h
def zx {y:V} {Q:Unit->L5->Prop} (I:Inv X pins σ H s) (e:H a=⇑(.ins C dx fs)) (c:Cls X.K C) (n:cH X.K C f) (hl:fs.length<1000) (ry:aX y u)
   (h:∀s',Inv X pins σ (upd H a (.ins C dx (bT f y fs))) s'->Q () s'):wpAny 0x3 A (setAttr ↥a f u) Q E s:=by
 let#[mA,O,r,wi,_,ho]:=m6 I.hok e;have hz:(fs.map (·.1)).length<=sizeLine:=by rw[HS,sizeLine_eq]; lia
 refine Bn I.kIn O c.sa c.po n.taker c.hd wi hz λh' O' sb=>h _ ?_;have hd:∃o,h'.get? dx=⇑o:=by let#[o,_,_,e',_]:=O'.ns; show#[o,e']
 refine I.write (x:=a) (e:=dx) (by rw[e]; exact True.intro) (.inr ho) (λb q hb z=>(sb.2 b hb)\z) hd ?_;show#[by rw[aM O.ne]; exact ho,?_,O.ne,O'.obj,_,O'.ns,λg=>?_,λg hg=>?_]
 . have:=oC f y fs; lia
 . show d8 ((bT f y fs).lookup g) (if g=f then ⇑u else mA g);rw[bt];by_cases q:g=f
   . rw[He q,He q]; exact ry
   . rw[HX q,HX q]; exact r g
 . by_cases q:g=f
   . rw[q]; exact(pi f y fs).1
   . refine(pi f y fs).2 g (wi g λz=>hg ?_);show(if g=f then ⇑u else mA g)=none;rw[HX q]; exact z
def Inv.made (I:Inv X pins σ H s):Inv X pins σ (upd (upd H s.heap.objs.size (.own (s.heap.objs.size+1))) (s.heap.objs.size+1) (.ins C s.heap.objs.size []))
   { s with heap:=(s.heap.push PySem.W.emptyDict).push (PySem.W.instObj C s.heap.objs.size) }:=by
 have e1:(s.heap.push PySem.W.emptyDict).get? s.heap.objs.size=⇑PySem.W.emptyDict:=Hs s.heap rfl;have e2:((s.heap.push PySem.W.emptyDict).push (PySem.W.instObj C s.heap.objs.size)).get? (s.heap.objs.size+1)=⇑(PySem.W.instObj C s.heap.objs.size):=by have:=Hs (s.heap.push PySem.W.emptyDict) (o:=PySem.W.instObj C s.heap.objs.size) rfl;rwa [Iy] at this
 have e3:(s.heap.push PySem.W.emptyDict).Ns s.heap.objs.size (λ_=>none):=#[PySem.W.emptyDict,0xC,_,e1,rfl,(λe he=>absurd he 0x8),λ_=>rfl]
 have I1:=I.laid (a:=s.heap.objs.size) (o:=.own (s.heap.objs.size+1)) (h':=s.heap.push PySem.W.emptyDict) (t':=s.toks) (λb u q=>HW _ q) (HY _) #[_,e1];refine I1.laid (a:=s.heap.objs.size+1) (o:=.ins C s.heap.objs.size []) (t':=s.toks) (λb u q=>HW _ q) (Nat.le_of_eq (Iy _ _)) ?_;have ne:s.heap.objs.size≠s.heap.objs.size+1:=IG (Iw _);show#[by rw[aM ne,aI],Hw _,ne,e2,λ_=>none,(Heap.Ns1.of_empty e3).at λo q=>HW _ q,λ_=>True.intro,λy hy=>absurd rfl hy]
def EE {prog:Program} {env:Env} {e:Expr} {f:Str} {Q:K'->L5->Prop} (hb:attributeBase e f env (eval e env)=eval e env)
   (h:wpAny 0x6 A (eval e env) (λo s₁=>wpAny 0x6 A (getAttr o f true) Q E s₁) E s):wpAny 0x6 A (eval (.Attribute e f pos) env) Q E s :=
 Attribute_any_ h (by rw[arm_eval_Attribute,hb])
end
abbrev pW (K:L7) (ta:TE) (f:Str):TE:=λσ H Q=>ta σ H λx H1=>∃a C dx fs v,x=↥a/\H1 a=⇑(.ins C dx fs)/\Cls K C/\cH K C f/\fs.lookup f=⇑v/\Q v H1
abbrev Dg (K:L7) (ta tv:TE) (f:Str):TS:=λD σ H=>tv σ H λy H1=>ta σ H1 λx H2=>∃a C dx fs,x=↥a/\H2 a=⇑(.ins C dx fs)/\Cls K C/\cH K C f/\fs.length<1000 /\
 D.nx σ (upd H2 a (.ins C dx (bT f y fs)))
section
variable {X:Cx} {o e value:Expr} {f:Str} {pos pos' tpos:Pos} {ta tv:TE}
def ug (he:PE X e ta) (hb:attributeBase e f X.env (eval e X.env)=eval e X.env):PE X (.Attribute e f pos) (pW X.K ta f):=by intro pins s σ H Q I h;refine EE hb (aQ (he pins s σ H _ I h) λu s1 z60_=>?_);let#[x,H1,I1,rx,a,C,dx,fs,v,ex,ea,c,n,l,q]:=z60_;subst ex;obtain rfl:u=Value.ref a:=rx;exact Gg I1 ea c n l λu' s2 I2 ru=>#[v,H1,I2,ru,q]
def cN (ha:PE X o ta) (hv:PE X value tv) (hs:swapsWith value ⇑(.Attribute o f pos') pos.line X.env=pure false):PS X (.Assign [.Attribute o f pos'] value pos) (Dg X.K ta tv f):=by intro pins s σ H D I h;refine plainObj_wpAny_Assign_Attribute (aQ (hv pins s σ H _ I h) λu s1 z62_=>z62_.e λy H1 I1 ry q=>aQ (ha pins s1 σ H1 _ I1 q) λov s2 z63_=>?_) hs;let#[x,H2,I2,rx,a,C,dx,fs,ex,ea,c,n,l,q2]:=z63_;subst ex;obtain rfl:ov=Value.ref a:=rx;exact zx I2 ea c n l ry λs3 I3=>#[σ,_,I3,q2]
end
section
variable {X:Cx} {pins:List (L6×Obj)} {σ:St} {H:Hp} {s:L5} {A:Around} {E:K'->L5->Prop} {Q:K'->L5->Prop} {c:K'} {b:Bool}
inductive TyOf (K:W.Frag) (H:Hp):V->Value->Prop where
 | non:TyOf K H .non (.type "NoneType")
 | bl (x:Bool):TyOf K H (.bl x) (.type "bool")
 | int (i:Int):TyOf K H (.int i) (.type "int")
 | str (x:Str):TyOf K H (.str x) (.type "str")
 | flt (x:UInt64):TyOf K H (.flt x) (.type "float")
 | lst {a:Addr} {xs:List V} (e:H a=⇑(.lst xs)):TyOf K H ↥a (.type "list")
 | frz {a:Addr} {o:Obj} {xs:List V} (e:H a=⇑(.frz o (.lst xs))):TyOf K H ↥a (.type "list")
 | tup {a:Addr} {xs:List V} (e:H a=⇑(.tup xs)):TyOf K H ↥a (.type "tuple")
 | dK {a:Addr} {kvs:List (aF×V)} (e:H a=⇑(.dK kvs)):TyOf K H ↥a (.type "dict")
 | dT {a:Addr} {kvs:List (List aF×V)} (e:H a=⇑(.dT kvs)):TyOf K H ↥a (.type "dict")
 | ins {a C dx:Addr} {fs:List (Str×V)} (e:H a=⇑(.ins C dx fs)) (cl:Cls K C) (ha:PySem.W.findIn K ↥C "__class__"=⇑⇑(.builtin "object.__class__"))
     (hn:PySem.W.specialIn K (.builtin "object.__class__") "__get__"=⇑⇑(.builtin "getset_descriptor.__get__")) (htk:PySem.W.takesIn K (.builtin "object.__class__")=⇑true)
     (hm:PySem.W.mroIn K C (.type "object")=⇑true):TyOf K H ↥a ↥C
def tY {x:V} {t:K'}(I:Inv X pins σ H s) (rx:aX x u) (ty:TyOf X.K H x t) (e:PySem.W.kitOne X.K t c=⇑b) (h:∀tk,Q (.bool b) { s with toks:=tk }) :
   wpAny 0x3 A (call (.builtin "isinstance") [u,c]) Q E s:=by
 cases ty with
 | non=>cases (show u=Value.none from rx); exact PySem.W.kia_one PySem.W.kitx_none I.kIn True.intro e (λz=>nomatch z) h
 | bl y=>cases (show u=Value.bool y from rx); exact PySem.W.kia_one PySem.W.kitx_bool I.kIn True.intro e (λz=>nomatch z) h
 | int i=>let#[t,q]:=(show ∃t,u=Value.int i t from rx); cases q; exact PySem.W.kia_one PySem.W.kitx_int I.kIn True.intro e (λz=>nomatch z) h
 | str y=>let#[t,q]:=(show ∃t,u=Value.str y t from rx); cases q; exact PySem.W.kia_one PySem.W.kitx_str I.kIn True.intro e (λz=>nomatch z) h
 | flt y=>let#[t,q]:=(show ∃t,u=Value.float y t from rx); cases q; exact PySem.W.kia_one PySem.W.kitx_float I.kIn True.intro e (λz=>nomatch z) h
 | @lst a xs ea =>
   cases (show u=Value.ref a from rx);let#[_,_,n,_,h1]:=(show bX X.prog X.w H s.heap a (.lst xs) from I.hok a _ ea)
   exact PySem.W.kia_one PySem.W.kitx_list I.kIn #[_,h1,rfl] e (λz=>nomatch z) h
 | @frz a ob xs ea =>
   cases (show u=Value.ref a from rx);let#[_,_,_,n,_,h1]:=(show bX X.prog X.w H s.heap a (.frz ob (.lst xs)) from I.hok a _ ea)
   exact PySem.W.kia_one PySem.W.kitx_list I.kIn #[_,h1,rfl] e (λz=>nomatch z) h
 | @tup a xs ea =>
   cases (show u=Value.ref a from rx);let#[_,_,_,p]:=(show bX X.prog X.w H s.heap a (.tup xs) from I.hok a _ ea)
   let#[o,h1,h2,_]:=p;exact PySem.W.kia_one PySem.W.kitx_tuple I.kIn #[o,h1,h2] e (λz=>nomatch z) h
 | @dK a kvs ea =>
   cases (show u=Value.ref a from rx);let#[_,_,vs,_,p]:=(show bX X.prog X.w H s.heap a (.dK kvs) from I.hok a _ ea)
   let#[o,es,ep,h1,h2,_]:=p;exact PySem.W.kia_one PySem.W.kitx_dict I.kIn #[o,h1,h2.1] e (λz=>nomatch z) h
 | @dT a kvs ea =>
   cases (show u=Value.ref a from rx);let#[_,_,xs,_,o,es,ep,h1,h2,_]:=(show bX X.prog X.w H s.heap a (.dT kvs) from I.hok a _ ea)
   exact PySem.W.kia_one PySem.W.kitx_dict I.kIn #[o,h1,h2.1] e (λz=>nomatch z) h
 | @ins a C dx fs ea cl ha hn htk hm =>
   cases (show u=Value.ref a from rx);let#[mA,O,_]:=m6 I.hok ea;let#[od,J,_]:=O.look;exact PySem.W.kia_one (PySem.W.kitx_own (cl.get _) cl.hd ha hn htk hm) I.kIn J e (λz=>nomatch z) h
end
structure Room (k:Nat) (A:Around):Prop where
 hd:A.handled=none
 dp:A.depth+3 * k+5<recursionLimit
 un:A.units+16 * k+200<cLine
def Room.mono {j k:Nat} {A:Around} (r:Room k A) (h:j<=k):Room j A:=#[r.hd,by have:=r.dp; lia,by have:=r.un; lia]
def Room.deeper {k:Nat} {A:Around} (r:Room (k+1) A) (env:Env):Room k (A.deeper env) :=
 #[r.hd,by have:=r.dp; show A.depth+1+3 * k+5<_; lia,by have:=r.un; show A.units+3+16 * k+200<_; lia]
def Gr {A:Around} {kw:List (Str×K')}:(A.under (.builtin "type.__call__" #[↥C::us,kw])).depth=A.depth+1:=by
 first|rfl|simp [Around.under,Code.weight,Code.isCreation,Code.isGuard,Code.isCaller,Code.frames,Code.isFrame,guardIds]
def Av {A:Around} {kw:List (Str×K')}:(A.under (.builtin "type.__call__" #[↥C::us,kw])).units=A.units+1:=by
 first|rfl|simp [Around.under,Code.cUnits,Code.frames,Code.isFrame]
def Room.make {k:Nat} {A:Around} (r:Room (k+1) A) (C:L6) (us:List K') (kw:List (Str×K')):Room k (A.under (.builtin "type.__call__" #[↥C::us,kw])) :=
 #[r.hd,by have:=r.dp; rw[Gr]; lia,by have:=r.un; rw[Av]; lia]
def Room.depth {k:Nat} {A:Around} (r:Room k A):A.depth<recursionLimit:=by have:=r.dp; lia
def Room.units {k:Nat} {A:Around} (r:Room k A):A.units+64<cLine:=by have:=r.un; lia
abbrev mG:TA:=λ_ H Q=>Q [] H
abbrev sM (ta:TE) (tr:TA):TA:=λσ H Q=>ta σ H λx H1=>tr σ H1 λxs H2=>Q (x::xs) H2
section
variable {X:Cx} {e:Expr} {es:List Expr} {te:TE} {t:TA} {pos:Pos}
def aD:PA X [] mG:=λ_ _ _ _ H Q I h=>Calls.spliced_nil #[[],H,I,.nil,h]
def aN (ha:PE X e te) (hr:PA X es t) (hs:starEach (e::es) X.env=(false,eval e X.env)::starEach es X.env:=by rfl):PA X (e::es) (sM te t):=by intro pos pins s σ H Q I h;rw[hs];show wpAny _ _ (spliced ((false,eval e X.env)::backTo pos (starEach es X.env))) _ _ s;refine Calls.spliced_cons (aQ (ha pins s σ H _ I h) λu s1 z68_=>?_);let#[x,H1,I1,r1,q1]:=z68_;exact aQ (hr pos pins s1 σ H1 _ I1 q1) λus s2 z69_=>by let#[xs,H2,I2,r2,q2]:=z69_; show#[x::xs,H2,I2,.cons r1 r2,q2]
def aC {e:Expr} {es:List Expr} {te:TE} {t:TA} (ha:PE X e te) (hr:PA X es t) (hs:starEach (e::es) X.env=(false,eval e X.env)::starEach es X.env):PA X (e::es) (sM te t):=aN ha hr hs
abbrev Ge (t:TA):TE:=λσ H Q=>t σ H λxs H1=>xs.length<=sizeLine/\∀p,H1 p=none->Q ↥p (upd H1 p (.tup xs))
abbrev wO (t:TA):TE:=λσ H Q=>t σ H λxs H1=>xs.length<=sizeLine/\∀p,H1 p=none->Q ↥p (upd H1 p (.lst xs))
def bD {x1} (h:PA X es t):PE X (.Tuple es x1 pos) (Ge t):=by intro pins s σ H Q I hq;refine wpAny_Tuple_spliced (aQ (h pos pins s σ H _ I hq) λus s1 ⟨xs,H1,I1,r,z,q⟩=>#[by rw[<- r.length]; exact z,?_]);have hf:H1 s1.heap.objs.size=none:=I1.hok.fresh (HY _);show#[↥s1.heap.objs.size,upd H1 s1.heap.objs.size (.tup xs),I1.laid (t':=s1.toks) (λb u e=>HW _ e) (HY _) ?_,rfl,q _ hf];show#[z,us,r,#[_,Hs _ rfl,13]]
def bI (h:PA X es t):PE X (.List es pos) (wO t):=by intro pins s σ H Q I hq;refine wpAny_List_spliced (aQ (h pos pins s σ H _ I hq) λus s1 ⟨xs,H1,I1,r,z,q⟩=>#[by rw[<- r.length]; exact z,?_]);have hf:H1 s1.heap.objs.size=none:=I1.hok.fresh (HY _);show#[↥s1.heap.objs.size,upd H1 s1.heap.objs.size (.lst xs),I1.laid (t':=s1.toks) (λb u e=>HW _ e) (HY _) ?_,rfl,q _ hf];show#[z,us,(0),r,Hs _ rfl]
end
noncomputable abbrev Sp:=List V->Hp->VK->XK->Prop
noncomputable abbrev eF:=List Env->Hp->L5->XK->K'->L5->Prop
structure Env0 (P:Program) (w:World) (K:W.Frag) (mg:Str->Option Value) (base:Heap) (A:Around) (outer:List Env) (s:Shared) (H:Hp):Prop where
 frames:A.frames=⇑outer
 mod:Mod K mg base
 bs:∀b o,base.get? b=⇑o->s.heap.get? b=⇑o/\H b=none
 bsz:base.objs.size<=s.heap.objs.size
 funs:s.heap.FunFrames base outer
 frf:∀b∈cJ outer,H b=none
 hok:bE P w H s.heap
 bare:AllBare s.gens
abbrev CE (outer:List Env) (P:Program) (w:World) (H:Hp) (s:L5) (Q:VK) (u:K') (s':L5):Prop :=
 ∃v H',s'.os=s.os/\AllBare s'.gens/\Un (cJ outer) [] H H' s.heap s'.heap/\bE P w H' s'.heap/\aX v u/\Q v H'
abbrev CR (CX:eF) (outer:List Env) (P:Program) (w:World) (H:Hp) (s:L5) (Q:VK) (E:XK) (r:Result) (s':L5):Prop :=
 match r with
 | .ok (.ret u)=>CE outer P w H s Q u s'
 | .ok _=>False
 | .error e=>CX outer H s E e s'
structure FnOk (P:Program) (w:World) (K:W.Frag) (mg:Str->Option Value) (base:Heap) (CX:eF) (k:Nat) (f:Addr) (fd:FuncData) (ps:List Str) (sp:Sp):Prop where
 len:∀vs H Q E,sp vs H Q E->vs.length=ps.length
 run:∀(A:Around) (outer:List Env) (s:Shared) (H:Hp) (args:Args) (us:List Value) (vs:List V) (Q:VK) (E:XK),Room k A->Env0 P w K mg base A outer s H->BindsTo s fd args (ps.zip us)->aU vs us->sp vs H Q E ->
   codeAny (model P w) A (.call ↥f args) (CR CX outer P w H s Q E) s
variable {base:Heap}
def Env0.make {mg:Str->Hl K'} {A:Around} {outer:List Env} (e:Env0 P w K mg base A outer s H) (C:L6) (us:List K') (kw:List (Str×K')) :
   Env0 P w K mg base (A.under (.builtin "type.__call__" #[↥C::us,kw])) outer s H:=#[by first|exact e.frames|(simpa [Around.under,Code.envs,Code.isFrame,pushEnvs] using e.frames),e.mod,e.bs,e.bsz,e.funs,e.frf,e.hok,e.bare]
section
variable {X:Cx} {pins:List (L6×Obj)} {σ:St} {H:Hp} {s s':L5}
def Inv.env0 (I:Inv X pins σ H s):Env0 X.prog X.w X.K X.mg X.base X.A X.stack s H :=
 #[I.ok.frames,I.ok.mod,I.bs,Hu I.ok.bsz I.sz,I.stack,I.stkFree,I.hok,I.bare]
def Inv.after {Q:VK} (I:Inv X pins σ H s) (h:CE X.stack X.prog X.w H s Q u s'):EP X pins σ Q u s':=by let#[v,H',os,bare,un,hok,r,q]:=h;let#[hh,g,d,t,os']:=s';obtain rfl:os'=s.os:=os;show#[v,H',I.call (h':=hh) (g':=g) (d':=d) (t':=t) (ch:=[]) un hok bare (λb z=>absurd z 0x8),r,q]
end
abbrev mz (sp:Sp) (dvs:List V) (E:XK) (t:TA):TE:=λσ H Q=>t σ H λvs H1=>sp (vs++dvs) H1 Q E
abbrev kj (C:L6) (m:Str) (sp:Sp) (dvs:List V) (E:XK) (ta:TE) (t:TA):TE:=λσ H Q=>ta σ H λx H1=>∃a dx fs,x=↥a/\H1 a=⇑(.ins C dx fs)/\fs.lookup m=none /\
 t σ H1 λvs H2=>sp (x::(vs++dvs)) H2 Q E
abbrev vS (C:L6) (sp:Sp) (dvs:List V) (E:XK) (t:TA):TE:=λσ H Q=>t σ H λvs H1=>∀x dx,H1 x=none->H1 dx=none->dx≠x ->
 sp (↥x::(vs++dvs)) (upd (upd H1 dx (.own x)) x (.ins C dx [])) (λv H2=>v=.non/\Q ↥x H2) E
abbrev dC (K:L7) (fd:FuncData) (ps:List Str) (ds:List K'):Prop :=
 ∀(s:L5) (us:List K'),K.In s.heap->(us++ds).length=ps.length->BindsTo s fd #[us,[]] (ps.zip (us++ds))
def dC.all {fd:FuncData} {ps:List Str} (h:∀us:List K',us.length=ps.length->bindArgs fd #[us,[]]=pure (ps.zip us)):dC K fd ps []:=λs us _ hl=>by rw[IQ] at hl ⊢;exact .of_eq (h us hl)
abbrev fh (CX:eF) (X:Cx) (E:XK):Prop:=∀(pins:List (L6×Obj)) (σ:St) (H:Hp) (s:L5) (e:K') (s':L5),Inv X pins σ H s->CX X.stack H s E e s'->X.xe e s'
section
variable {X:Cx} {CX:eF} {k:Nat} {f C:L6} {fd:FuncData} {ps:List Str} {sp:Sp} {dvs:List V} {ds:List K'} {E:XK} {x m:Str} {p pos apos:Pos} {e o:Expr} {es:List Expr} {ta:TE} {t:TA}
def nE {Q:VK} {vs:List V} (F:FnOk X.prog X.w X.K X.mg X.base CX k f fd ps sp) (hr:Room k X.A) (hb:dC X.K fd ps ds) (hd:aU dvs ds) (hx:fh CX X E)
   (I:Inv X pins σ H s) (r:aU vs us) (h:sp (vs++dvs) H Q E):wpAny 0x3 X.A (call ↥f us) (EP X pins σ Q) X.xe s:=by
 have r2:aU (vs++dvs) (us++ds):=r.append hd;have hl:(us++ds).length=ps.length:=by rw[<- r2.length]; exact F.len _ _ _ _ h
 refine Jp (Jk (F.run X.A X.stack s H #[us,[]] (us++ds) (vs++dvs) Q E hr I.env0 (hb s us I.kIn hl) r2 h) λr s' hq=>?_);cases r with
 | error e=>exact hx pins σ H s e s' I hq
 | ok fl =>
   cases fl with
   | ret u=>exact I.after hq
   | next=>exact False.elim hq
   | brk=>exact False.elim hq
   | cont=>exact False.elim hq
def FJ (F:FnOk X.prog X.w X.K X.mg X.base CX k f fd ps sp) (hr:Room k X.A) (hg:Gl X x) (hm:X.mg x=⇑↥f) (hk:PySem.W.keepIn X.K ↥f=true) (hb:dC X.K fd ps ds) (hd:aU dvs ds) (hx:fh CX X E)
   (ha:PA X (e::es) t) (hdb:(x==("__debug__":Str))=false:=by decide) (he:starEach (e::es) X.env=(false,eval e X.env)::starEach es X.env:=by rfl) (hpl:(backTo pos (starEach es X.env)).any (·.1)=false:=by rfl) :
   PE X (.Call (.Name x p) (e::es) [] pos) (mz sp dvs E t):=by
 intro pins s σ H Q I h;refine JM (kr I hg hm ?_ hdb);refine PySem.W.callWith_K (h₀:=X.base) I.ok.mod.kin hk (aQ (ha pos pins s σ H _ I h) λus s1 z72_=>z72_.e λvs H1 I1 r q=>#[I1.kIn,?_]) he hpl;exact nE F hr hb hd hx I1 r q
def bN (he:PE X o ta) (c:Cls X.K C) (hm:Meth X.K C m f) (F:FnOk X.prog X.w X.K X.mg X.base CX k f fd ps sp) (hr:Room k X.A) (hb:dC X.K fd ps ds) (hd:aU dvs ds) (hx:fh CX X E) (ha:PA X (e::es) t)
   (hst:starEach (e::es) X.env=(false,eval e X.env)::starEach es X.env:=by rfl) (hpl:(backTo pos (starEach es X.env)).any (·.1)=false:=by rfl)
   (ht:eval (.Call (.Attribute o m apos) (e::es) [] pos) X.env=(do
     let ov <- eval o X.env
     standAt apos.atName
     let (f,first) <- holding [ov] (getMethod ov m pl)
     callWith pos f first (backTo pos (starEach (e::es) X.env)) (backToKw pos (keywordEach [] X.env))):=by rfl) :
   PE X (.Call (.Attribute o m apos) (e::es) [] pos) (kj C m sp dvs E ta t):=by
 intro pins s σ H Q I h;refine PySem.W.methodCall_KW (pl:=pl) (aQ (he pins s σ H _ I h) λu s1 z73_=>?_) ht;let#[x,H1,I1,rx,a,dx,fs,ex,ea,l,q]:=z73_;subst ex;obtain rfl:u=Value.ref a:=rx;refine ky I1 ea c hm l ?_;refine PySem.W.callWith_K (first:=[↥a]) (h₀:=X.base) I.ok.mod.kin hm.kp (aQ (ha pos pins s1 σ H1 _ I1 q) λus s2 z74_=>z74_.e λvs H2 I2 r q2=>#[I2.kIn,?_]) hst hpl;exact nE (us:=↥a::us) (vs:=↥a::vs) F hr hb hd hx I2 (.cons rfl r) q2
def gw (he:PE X o ta) (c:Cls X.K C) (hm:Meth X.K C m f) (F:FnOk X.prog X.w X.K X.mg X.base CX k f fd ps sp) (hr:Room k X.A) (hb:dC X.K fd ps ds) (hd:aU dvs ds) (hx:fh CX X E)
   (ht:eval (.Call (.Attribute o m apos) [] [] pos) X.env=(do
     let ov <- eval o X.env
     standAt apos.atName
     let (f,first) <- holding [ov] (getMethod ov m pl)
     callWith pos f first (backTo pos (starEach [] X.env)) (backToKw pos (keywordEach [] X.env))):=by rfl) :
   PE X (.Call (.Attribute o m apos) [] [] pos) (kj C m sp dvs E ta mG):=by
 intro pins s σ H Q I h;refine PySem.W.methodCall_KW (pl:=pl) (aQ (he pins s σ H _ I h) λu s1 z75_=>?_) ht;let#[x,H1,I1,rx,a,dx,fs,ex,ea,l,q]:=z75_;subst ex;obtain rfl:u=Value.ref a:=rx;refine ky I1 ea c hm l ?_;exact PySem.W.callWith_K0 (first:=[↥a]) I1.kIn hm.kp (nE (us:=[↥a]) (vs:=[↥a]) F hr hb hd hx I1 (.cons rfl .nil) q)
structure Mk (K:W.Frag) (C f:Addr):Prop where
 makes:PySem.W.makesIn K C=true
 init:PySem.W.findIn K ↥C "__init__"=⇑⇑↥f
 fn:PySem.W.isFn K ↥f=true
 kp:PySem.W.keepIn K ↥C=true
def D6 {Q:VK} {vs:List V} (M:Mk X.K C f) (F:FnOk X.prog X.w X.K X.mg X.base CX k f fd ps sp) (hr:Room (k+1) X.A) (hb:dC X.K fd ps ds) (hd:aU dvs ds)
   (hx:fh CX X E) (I:Inv X pins σ H s) (r:aU vs us)
   (h:∀x dx,H x=none->H dx=none->dx≠x->sp (↥x::(vs++dvs)) (upd (upd H dx (.own x)) x (.ins C dx [])) (λv H2=>v=.non/\Q ↥x H2) E) :
   wpAny 0x3 X.A (call ↥C us) (EP X pins σ Q) X.xe s:=by
 have hq:=h (s.heap.objs.size+1) s.heap.objs.size (I.hok.fresh (Ja _)) (I.hok.fresh (HY _)) (IG (Iw _));have I2:=Inv.made (C:=C) I;have r2:aU (V.ref (s.heap.objs.size+1)::(vs++dvs)) (Value.ref (s.heap.objs.size+1)::(us++ds)):=.cons rfl (r.append hd);have hl:(Value.ref (s.heap.objs.size+1)::us++ds).length=ps.length:=by have e:=r2.length;rw[F.len _ _ _ _ hq] at e;exact e.symm
 refine Jp (zr (f:=f) I.kIn M.makes M.init (beq_iff_eq.mp M.fn) (Jk (F.run _ X.stack _ _ #[Value.ref (s.heap.objs.size+1)::us,[]] (Value.ref (s.heap.objs.size+1)::(us++ds)) _ _ E (hr.make C us [])
   (I2.env0.make C us []) (hb _ (Value.ref (s.heap.objs.size+1)::us) I2.kIn hl) r2 hq) λr s' hq'=>?_))
 cases r with
 | error e=>exact hx pins σ _ _ e s' I2 hq'
 | ok fl =>
   cases fl with
   | ret u =>
     let#[v,H',I3,rv,ev,q3]:=I2.after hq';subst ev;show#[rv,#[V.ref (s.heap.objs.size+1),H',I3,rfl,q3]]
   | next=>exact False.elim hq'
   | brk=>exact False.elim hq'
   | cont=>exact False.elim hq'
def Ek (M:Mk X.K C f) (F:FnOk X.prog X.w X.K X.mg X.base CX k f fd ps sp) (hr:Room (k+1) X.A) (hg:Gl X x) (hm:X.mg x=⇑↥C) (hb:dC X.K fd ps ds) (hd:aU dvs ds) (hx:fh CX X E)
   (ha:PA X (e::es) t) (hdb:(x==("__debug__":Str))=false:=by decide) (he:starEach (e::es) X.env=(false,eval e X.env)::starEach es X.env:=by rfl) (hpl:(backTo pos (starEach es X.env)).any (·.1)=false:=by rfl) :
   PE X (.Call (.Name x p) (e::es) [] pos) (vS C sp dvs E t):=by
 intro pins s σ H Q I h;refine JM (kr I hg hm ?_ hdb);refine PySem.W.callWith_K (h₀:=X.base) I.ok.mod.kin M.kp (aQ (ha pos pins s σ H _ I h) λus s1 z76_=>z76_.e λvs H1 I1 r q=>#[I1.kIn,?_]) he hpl;exact D6 M F hr hb hd hx I1 r q
end
structure FnScope (N P:List Str) (sc:Scope):Prop where
 kind:sc.kind=.function
 co:sc.isCoroutine=false
 gen:sc.isGenerator=false
 nd:N.Nodup
 pre:N.take P.length=P
 par:∀x∈P,sc.names.lookup x=some .local\/sc.names.lookup x=some .cell
 nofree:∀y∈sc.names,y.2≠.free
def wE {kindOf:Str->Hl NameKind} {x:Str}:∀{binds:List (Str×K')} {m:Str->Hl K'},(∀v,(x,v) ∉ binds)->bindL kindOf binds m x=m x
 | [],_,_=>rfl
 | (n,v)::r,m,h=>by
   unfold bindL;rw[wE λw hw=>h w (Hv _ hw)];split
   . have:x≠n:=by rintro rfl; exact h v Hj
     simp [this]
   . rfl
def rj {kindOf:Str->Hl NameKind} {x:Str}:∀{binds:List (Str×K')} {m:Str->Hl K'},(∀v,(x,v) ∉ binds)->bindC kindOf binds m x=m x
 | [],_,_=>rfl
 | (n,v)::r,m,h=>by
   unfold bindC;rw[rj λw hw=>h w (Hv _ hw)];split
   . rfl
   . have:x≠n:=by rintro rfl; exact h v Hj
     simp [this]
def uj {kindOf:Str->Hl NameKind} {x:Str} {v:K'}:∀{P:List Str} {vs:List K'} {i:Nat} {m:Str->Hl K'},P.Nodup->P[i]?=⇑x->vs[i]?=⇑v->kindOf x=some .local ->
   bindL kindOf (P.zip vs) m x=⇑v
 | [],_,_,_,_,h,_,_=>by simp at h
 | _::_,[],_,_,_,_,h,_=>by simp at h
 | p::P,w::vs,0,m,nd,h1,h2,hk=>by simp at h1 h2; subst h1; subst h2;show bindL kindOf ((p,w)::P.zip vs) m p=_;unfold bindL;rw[wE λv hv=>(JP.mp nd).1 (KD hv).1,He hk];simp
 | p::P,w::vs,i+1,m,nd,h1,h2,hk=>by show bindL kindOf ((p,w)::P.zip vs) m x=_;unfold bindL;exact uj (i:=i) (JP.mp nd).2 ↑h1 ↑h2 hk
def sW {kindOf:Str->Hl NameKind} {x:Str} {v:K'}:∀{P:List Str} {vs:List K'} {i:Nat} {m:Str->Hl K'},P.Nodup->P[i]?=⇑x->vs[i]?=⇑v->kindOf x≠some .local ->
   bindC kindOf (P.zip vs) m x=⇑v
 | [],_,_,_,_,h,_,_=>by simp at h
 | _::_,[],_,_,_,_,h,_=>by simp at h
 | p::P,w::vs,0,m,nd,h1,h2,hk=>by simp at h1 h2; subst h1; subst h2;show bindC kindOf ((p,w)::P.zip vs) m p=_;unfold bindC;rw[rj λv hv=>(JP.mp nd).1 (KD hv).1,HX hk];simp
 | p::P,w::vs,i+1,m,nd,h1,h2,hk=>by show bindC kindOf ((p,w)::P.zip vs) m x=_;unfold bindC;exact sW (i:=i) (JP.mp nd).2 ↑h1 ↑h2 hk
abbrev eR (N:List Str) (vs:List V):St:=vs.map some++List.replicate (N.length - vs.length) none
abbrev cY (CX:eF) (P:Program) (w:World) (K:L7) (mg:Str->Hl K') (base:Heap) (N:List Str) (qual:Str) (scope:Scope) (f:L6) (cd:K') (A:Around) (outer:List Env) (s:L5) (H:Hp) (E:XK):Cx where
 prog:=P
 w:=w
 K:=K
 mg:=mg
 base:=base
 A:=A.deeper (envOfC qual scope s.heap.objs.size f cd)
 N:=N
 s₀:=s
 H₀:=H
 env:=envOfC qual scope s.heap.objs.size f cd
 outer:=outer
 stack:=envOfC qual scope s.heap.objs.size f cd::outer
 ex:=[]
 calm:=true
 fn:=λ_=>true
 pn:=[]
 xe:=λe s'=>wpAny (model P w) (A.deeper (envOfC qual scope s.heap.objs.size f cd)) (leaving (envOfC qual scope s.heap.objs.size f cd) e) (λ_ s''=>CX outer H s E e s'') (λe' s''=>CX outer H s E e' s'') s'
def sK {sc:Scope} {n:Nat} (h:sc.names.lookup x=some .cell):∃c,(cellsFrom n sc.names []).lookup x=⇑c:=by have q:=PySem.W.cellsFrom_some sc.names n [] (.inl h);exact Jx.mp q
def tu {CX:eF} {mg:Str->Hl K'} {N ps:List Str} {qual:Str} {scope:Scope} {f:L6} {cd:K'} {A:Around} {outer:List Env} {s1:L5}{E:XK} {vs:List V}
   (S:FnScope N ps scope) (hd:A.handled=none) (e0:Env0 P w K mg base A outer s H) (hl:vs.length=ps.length) (r:aU vs us)
   (x:InCallC s s.heap.objs.size (bindL (envOfC qual scope s.heap.objs.size f cd).kindOf (ps.zip us) λ_=>none) (cellsFrom (s.heap.objs.size+1) scope.names []) (bindC (envOfC qual scope s.heap.objs.size f cd).kindOf (ps.zip us) λ_=>none) s1) :
   Inv (cY CX P w K mg base N qual scope f cd A outer s H E) [] (eR N vs) H s1:=by
 have hpl:ps.length<=N.length:=by have:=Hr List.length S.pre; rw[IE] at this; lia
 let#[h1,tk,rfl,hk]:=x.done;have noA:∀b:L6,b ∉ (cY CX P w K mg base N qual scope f cd A outer s H E).ex:=λb z=>absurd (show b∈([]:List L6) from z) 0x8;show#[#[e0.mod,S.kind,7,HY _,λy z c h1 h2=>?_,λy hy=>?_,λy c _ h=>?_,λ_=>hd,Around.frames_deeper e0.frames,.inr #[7],λb z=>absurd z (noA b),e0.bs,e0.bsz,λb _ _=>noA b,λb z=>absurd z (noA b),e0.funs,e0.frf],rfl,e0.bare,Un.kept hk,#[_,x.toInCall.ns,λi y v h1 h2 h3=>?_],λy c h=>#[_,x.cell y c h],e0.hok.fresh (HY _),λy c h=>?_,λp hp=>absurd (show p∈([]:List (L6×Obj)) from hp) 0x8,e0.hok.kept hk,?_]
 . exact name_of_addr x.apart (PySem.mem_of_lookup h1) (PySem.mem_of_lookup h2)
 . have hy:scope.names.lookup y=some .cell\/scope.names.lookup y=some .free:=hy;rcases hy with hy|hy
   . exact sK hy
   . exact absurd rfl (S.nofree _ (PySem.mem_of_lookup hy))
 . exact Jw (x.above y c (PySem.mem_of_lookup h))
 . have hi:i<vs.length:=by
     unfold eR at h2;by_cases hi:i<vs.length
     . exact hi
     . rw[IS ↑hi] at h2;rw[Kn] at h2;split at h2 <;> cases h2
   have ha:vs[i]?=⇑v:=by
     unfold eR at h2;rw[IV ↑hi,Hk] at h2;cases e:vs[i]? with
     | none=>rw[e] at h2; cases h2
     | some a=>rw[e] at h2; cases h2; rfl
   let#[u,hu,rv]:=r.get ha;have hp:ps[i]?=⇑y:=by rw[<- S.pre,JE ∅]; exact h1
   have ndP:ps.Nodup:=by rw[<- S.pre]; exact S.nd.sublist (List.take_sublist _ _)
   show#[u,rv,?_];rcases S.par y (IA hp) with k|k
   . exact .inl #[k,uj ndP hp hu k]
   . let#[c,e]:=sK (n:=s.heap.objs.size+1) k;refine .inr #[.inl k,c,e,?_];have q:=x.cell y c e;rw[sW ndP hp hu (by show scope.names.lookup y≠_; rw[k]; decide)] at q;exact q
 . exact e0.hok.fresh (Jw (x.above y c (PySem.mem_of_lookup h)))
 . unfold eR;show _=N.length;rw[HZ,HS,JQ]
   lia
def uw {CX:eF} {mg:Str->Hl K'} {k:Nat} {f:L6} {name qual:Str} {params:Arguments} {body:List Stmt} {scope:Scope} {dV kV doc pm cdv ct oc:K'} {an od:Hl L6}
   {osl:Array (Hl K')} {N ps:List Str} {sp:Sp} (lk:K.lookup f=⇑#[oc,od,.func (PySem.W.fnOf name qual params body scope dV kV doc pm an cdv ct),osl]) (hcd:PySem.W.codeIn K cdv qual=true) (S:FnScope N ps scope)
   (len:∀vs H Q E,sp vs H Q E->vs.length=ps.length)
   (hbody:∀(A:Around) (outer:List Env) (s:L5) (H:Hp) (vs:List V) (Q:VK) (E:XK),Room k (A.deeper (envOfC qual scope s.heap.objs.size f cdv))->sp vs H Q E ->
     ∃t,aO (cY CX P w K mg base N qual scope f cdv A outer s H E) body t/\t { nx:=λ_ H'=>Q .non H',rt:=Q } (eR N vs) H) :
   FnOk P w K mg base CX (k+1) f (PySem.W.fnOf name qual params body scope dV kV doc pm an cdv ct) ps sp:=by
 show#[len,λA outer s H args us vs Q E hr e0 hb r hsp=>?_];have hl:=len _ _ _ _ hsp;have KX:K.In s.heap:=e0.mod.kin.keeps λb o e=>(e0.bs b o e).1;have lim:s.heap.NoLimit:=e0.mod.nolimit.keeps λb o e=>(e0.bs b o e).1;have hkind:∀y∈ps.zip us,scope.names.lookup y.1=some .local\/(scope.names.lookup y.1=some .cell/\((cellsFrom (s.heap.objs.size+1) scope.names []).lookup y.1).isSome=true):=λ⟨n,v⟩ hy=>by
   rcases S.par n (KD hy).1 with q|q
   . exact .inl q
   . exact .inr #[q,PySem.W.cellsFrom_some _ _ _ (.inl q)]
 refine codeAny_call_function hr.depth (KX _ _ lk) rfl S.co S.gen rfl (PySem.W.codeRec_of KX hcd) (hb _ _ _ _ ?_);refine Ka S.kind hkind λenv he s1 x=>?_;subst he;show#[lim.keeps x.toInCall.keep,codeAny_func ?_];let#[t,ht,hq]:=hbody A outer s H vs Q E (hr.deeper _) hsp;have I:Inv (cY CX P w K mg base N qual scope f cdv A outer s H E) [] (eR N vs) H s1:=tu S hr.hd e0 hl r x;refine Il (ht [] s1 (eR N vs) H _ I hq) (λfl s' hs=>?_) λe s' hs=>hs;have fin:∀{σ':St} {H':Hp} {v:V} {u:K'},Inv (cY CX P w K mg base N qual scope f cdv A outer s H E) [] σ' H' s'->aX v u->Q v H'->CE outer P w H s Q u s' :=
   λ{σ' H' v u} J rv q=>#[v,H',J.os,J.bare,J.base,J.hok,rv,q]
 cases fl with
 | ret u =>
   let#[v,σ',H',J,rv,q]:=hs;exact fin J rv q
 | next =>
   let#[σ',H',J,q]:=hs;exact fin (v:=V.non) (u:=Value.none) J rfl q
 | brk =>
   let#[_,_,_,q]:=hs;exact False.elim q
 | cont =>
   let#[_,_,_,q]:=hs;exact False.elim q
section
variable {X:Cx} {x:Str} {p pos:Pos} {e:Expr} {es:List Expr} {t:TA} {id T:String} {r:List V->Hp->VK->Prop}
abbrev pV (r:List V->Hp->VK->Prop) (t:TA):TE:=λσ H Q=>t σ H λvs H1=>r vs H1 Q
def az (hc:aw X (.builtin id) r) (hg:Gl X x) (hm:X.mg x=none) (hv:bootBuiltins x=⇑(.builtin id)) (ha:PA X (e::es) t) (hn:x≠"__name__":=by decide) (hdb:(x==("__debug__":Str))=false:=by decide)
   (he:starEach (e::es) X.env=(false,eval e X.env)::starEach es X.env:=by rfl) (hpl:(backTo pos (starEach es X.env)).any (·.1)=false:=by rfl):PE X (.Call (.Name x p) (e::es) [] pos) (pV r t):=by
 intro pins s σ H Q I h;refine JM (fk I hg hm hv ?_ hn hdb);exact PyProof.Rows.callWith_builtin1 (aQ (ha pos pins s σ H _ I h) λus s1 z82_=>by let#[vs,H1,I1,r1,q1]:=z82_; exact hc pins s1 σ H1 vs us Q I1 r1 q1) he hpl
def dk (hc:aw X (.type T) r) (hg:Gl X x) (hm:X.mg x=none) (hv:bootBuiltins x=⇑(.type T)) (ha:PA X (e::es) t) (hn:x≠"__name__":=by decide) (hdb:(x==("__debug__":Str))=false:=by decide)
   (he:starEach (e::es) X.env=(false,eval e X.env)::starEach es X.env:=by rfl) (hpl:(backTo pos (starEach es X.env)).any (·.1)=false:=by rfl):PE X (.Call (.Name x p) (e::es) [] pos) (pV r t):=by
 intro pins s σ H Q I h;refine JM (fk I hg hm hv ?_ hn hdb);exact Ie (aQ (ha pos pins s σ H _ I h) λus s1 z83_=>by let#[vs,H1,I1,r1,q1]:=z83_; exact hc pins s1 σ H1 vs us Q I1 r1 q1) he hpl
end
end L2
namespace HT
open PySem PyProof.Rows
section
variable {prog:Program} {w:World} {A:Around} {E:K'->L5->Prop} {s:L5}
abbrev sIx (n d:Nat):Hl Int->Nat
 | none=>d
 | some v=>if v<0 then(v+(n:Int)).toNat else min v.toNat n
def sIx_none (n d:Nat):sIx n d none=d:=rfl
def sIx_nat (n d k:Nat):sIx n d ⇑(k:Int)=min k n:=by show(if(k:Int)<0 then((k:Int)+(n:Int)).toNat else min (k:Int).toNat n)=min k n;rw[HX ∅,JI]
def D4 (n d:Nat) (hd:d<=n) (o:Hl Int):sIx n d o<=n:=by
 cases o with
 | none=>exact hd
 | some v =>
   show(if v<0 then(v+(n:Int)).toNat else min v.toNat n)<=n;by_cases hv:v<0
   . rw[He hv]; lia
   . rw[HX hv]; exact Nat.min_le_right _ _
def tL (v:Int) (n d:Nat):(if v<0 then max (v+(n:Int)) 0 else min v (n:Int))=((sIx n d ⇑v:Nat):Int):=by
 show(if v<0 then max (v+(n:Int)) 0 else min v (n:Int))=(((if v<0 then(v+(n:Int)).toNat else min v.toNat n):Nat):Int);by_cases hv:v<0
 . simp only[He hv]; lia
 . simp only[HX hv]; lia
def Dj (lo hi:Hl Int) (n:Nat):Builtin.Slice.sliceAdjust lo hi 1 (n:Int)=(((sIx n 0 lo:Nat):Int),((sIx n n hi:Nat):Int)):=by
 have h1:¬ ((1:Int)<0):=by lia
 unfold Builtin.Slice.sliceAdjust;simp only[h1,if_false];refine Prod.ext ?_ ?_
 . cases lo with
   | none=>rfl
   | some v=>exact tL v n 0
 . cases hi with
   | none=>rfl
   | some v=>exact tL v n n
def HE (i j:Nat):Builtin.Slice.slicePlaces (i:Int) (j:Int) 1=j - i:=by
 unfold Builtin.Slice.slicePlaces;have h1:(1:Int) > 0:=by lia
 simp only[h1,if_true,Int.ediv_one];split <;> lia
def wH {v:K'} {o:Hl Int} {Q:Hl Int->L5->Prop} (p:IsPart v o) (h:Q o s):wpAny 0x6 A (Builtin.Slice.slicePartIndex v) Q E s:=by
 cases p with
 | none=>exact slicePart_none h
 | int i t=>exact slicePart_int h
def w4 {sl:L6} {vl vu:K'} {lo hi:Hl Int} {n:Nat} {Q:Int×Int×Nat->L5->Prop} (hs:s.heap.IsSliceOf sl vl vu .none) (pl:IsPart vl lo) (pu:IsPart vu hi)
   (h:Q (((sIx n 0 lo:Nat):Int),1,sIx n n hi - sIx n 0 lo) s):wpAny 0x6 A (Builtin.Slice.sliceApplied ↥sl (pure (n:Int))) Q E s:=by
 let#[os,hos,hcs,hds]:=id hs;unfold Builtin.Slice.sliceApplied Builtin.Slice.sliceFields;refine HR (HR (IR hos hds (x:=vl) rfl (HR (IR hos hds (x:=vu) rfl (HR (IR hos hds (x:=.none) rfl (Ha ?_)))))));refine HR (slicePart_none ?_);show wpAny _ _ (if((1:Int)==0)=true then _ else _) _ _ s;rw[HX #[]];refine HR (wH pl (HR (wH pu (HR (Ha ?_)))));show wpAny _ _ (match Builtin.Slice.sliceAdjust lo hi 1 (n:Int) with|(lo,hi)=>pure (lo,(1:Int),Builtin.Slice.slicePlaces lo hi 1)) _ _ s;rw[Dj lo hi n];show wpAny _ _ (pure (((sIx n 0 lo:Nat):Int),(1:Int),Builtin.Slice.slicePlaces ((sIx n 0 lo:Nat):Int) ((sIx n n hi:Nat):Int) 1)) _ _ s;rw[HE];exact Ha h
def Fu (xs:Array K') (i k:Nat):((List.range k).filterMap λ(m:Nat)=>xs[((i:Int)+(m:Int) * 1).toNat]?).toArray=((xs.toList.drop i).take k).toArray:=by
 have e:(λ(m:Nat)=>xs[((i:Int)+(m:Int) * 1).toNat]?)=λm=>xs[i+m]?:=by
   funext m;have:((i:Int)+(m:Int) * 1).toNat=i+m:=by lia
   rw[this]
 rw[e];have:=pick_run xs i k;rw[List.filterMap_map] at this;have e2:((λx=>xs[x]?) ∘ λx=>i+x)=λm=>xs[i+m]?:=rfl;rw[e2] at this;rw[this]
def getItem_tuple_cut {t sl:L6} {items:Array K'} {vl vu:K'} {lo hi:Hl Int} {Q:K'->L5->Prop} (ht:IsTup s.heap t items) (hs:s.heap.IsSliceOf sl vl vu .none) (pl:IsPart vl lo) (pu:IsPart vu hi)
   (hw:¬ (sIx items.size 0 lo=0/\sIx items.size items.size hi=items.size))
   (h:Q ↥s.heap.objs.size { s with heap:=s.heap.push { cls:=.type "tuple",data:=.seq ((items.toList.drop (sIx items.size 0 lo)).take (sIx items.size items.size hi - sIx items.size 0 lo)).toArray } })
   (hsz:items.size<=sizeLine):wpAny 0x6 A (getItem ↥t ↥sl) Q E s:=by
 have htake:sizeOk (.seq ((items.toList.drop (sIx items.size 0 lo)).take (sIx items.size items.size hi - sIx items.size 0 lo)).toArray):=by
   show((items.toList.drop (sIx items.size 0 lo)).take (sIx items.size items.size hi - sIx items.size 0 lo)).toArray.size<=sizeLine;rw[Hn,IE,J5,KP]
   lia
 have hj:sIx items.size items.size hi<=items.size:=D4 _ _ (HY _) hi;let#[os,hos,hcs,hds]:=id hs;have hTs:s.TypeIs ↥sl "slice":=#[os,hos,hcs]
 unfold getItem
 try with_reducible refine IW ?_
 first|refine HR (Ha ?_)|skip
 refine HR (Kf ht.typeIs #[] ?_);refine HR (wpAny_callSpecial?_slot (name:=Str.ofString "__getitem__") ht.typeIs Im
   (Ix Im ht.typeIs entry_tuple_getitem ?_ (args_tuple_getitem _ _)))
 show wpAny _ _ (Builtin.Tuple.tupleItemsOf ↥t >>= _) _ _ s;refine HR (tupleItemsOf_ ht ?_);refine HR (Jl hTs ?_);rw[He #[]];refine HR (w4 hs pl pu ?_);have hno:¬ ((((sIx items.size 0 lo:Nat):Int)==0&&(1:Int)==1&&(sIx items.size items.size hi - sIx items.size 0 lo)==items.size)=true):=by intro q;rw[IN,IN] at q;have q1:((sIx items.size 0 lo:Nat):Int)=0:=eq_of_beq q.1.1;have q2:sIx items.size items.size hi - sIx items.size 0 lo=items.size:=eq_of_beq q.2;exact hw #[∅,∅]
 show wpAny _ _ (if(((sIx items.size 0 lo:Nat):Int)==0&&(1:Int)==1&&(sIx items.size items.size hi - sIx items.size 0 lo)==items.size)=true then _ else _) _ _ s;rw[HX hno,Fu]
 first
   | exact HR (m:=Builtin.Tuple.tupleExact _) (J1 (Ha ⟨_,rfl,Ha h⟩) htake)
   | exact HR (m:=Builtin.Tuple.tupleExact _) (J1 (HR (Ha (Ha ⟨_,rfl,Ha h⟩))) htake)
   | exact HR (HR (m:=Builtin.Tuple.tupleExact _) (J1 (Ha (Ha ⟨_,rfl,Ha h⟩)) htake))
   | exact HR (HR (m:=Builtin.Tuple.tupleExact _) (J1 (Ha ⟨_,rfl,Ha h⟩) htake))
end
end HT
namespace L2
open PySem PySem.Spec PyProof.Rows
noncomputable abbrev TO:=St->Hp->(Hl Int->Hp->Prop)->Prop
abbrev PO (X:Cx) (e:Hl Expr) (t:TO):Prop :=
 ∀(pins:List (L6×Obj)) (s:L5) (σ:St) (H:Hp) (Q:Hl Int->Hp->Prop),Inv X pins σ H s->t σ H Q ->
   wpAny 0x3 X.A (evalPart e X.env) (λu s'=>∃o H',Inv X pins σ H' s'/\IsPart u o/\Q o H') X.xe s
abbrev AB:TO:=λ_ H Q=>Q none H
abbrev GZ (t:TE):TO:=λσ H Q=>t σ H λx H1=>∃i,x=.int i/\Q ⇑i H1
section
variable {X:Cx} {e:Expr} {te:TE} {lo hi:Hl Expr} {tl th:TO} {pos p2:Pos}
def fR:PO X none AB:=by intro pins s σ H Q I h;rw[evalPart_none];exact Ha #[none,H,I,.none,h]
def dz (h:PE X e te):PO X ⇑e (GZ te):=by intro pins s σ H Q I hw;rw[evalPart_some];refine aQ (h pins s σ H _ I hw) λu s1 z84_=>?_;let#[x,H1,I1,r1,q1]:=z84_;let#[i,rfl,q]:=q1;let#[t,rfl]:=r1;show#[⇑i,H1,I1,.int i t,q]
abbrev fW (X:Cx) (r:V->Hl Int->Hl Int->Hp->VK->Prop):Prop :=
 ∀(pins:List (L6×Obj)) (s:L5) (σ:St) (H:Hp) (x:V) (v vl vu:K') (lo hi:Hl Int) (sl:L6) (Q:VK),Inv X pins σ H s->aX x v->s.heap.IsSliceOf sl vl vu .none->IsPart vl lo->IsPart vu hi->r x lo hi H Q ->
   ∃T id,typeLookup (.type T) "__getitem__"=pure ⇑(.builtin id)/\s.TypeIs v T/\wpAny 0x3 X.A (getItem v ↥sl) (EP X pins σ Q) X.xe s
def fW.or {r r':V->Hl Int->Hl Int->Hp->VK->Prop} (h:fW X r) (h':fW X r'):fW X (λx lo hi H Q=>r x lo hi H Q\/r' x lo hi H Q):=by
 intro pins s σ H x v vl vu lo hi sl Q I rx hs pl pu q;rcases q with q|q
 . exact h pins s σ H x v vl vu lo hi sl Q I rx hs pl pu q
 . exact h' pins s σ H x v vl vu lo hi sl Q I rx hs pl pu q
abbrev tSl (r:V->Hl Int->Hl Int->Hp->VK->Prop) (te:TE) (tl th:TO):TE:=λσ H Q=>te σ H λx H1=>tl σ H1 λl H2=>th σ H2 λu H3=>r x l u H3 Q
def eO {r:V->Hl Int->Hl Int->Hp->VK->Prop} (hr:fW X r) (he:PE X e te) (hl:PO X lo tl) (hu:PO X hi th):PE X (.Subscript e (.Slice lo hi none p2) pos) (tSl r te tl th):=by intro pins s σ H Q I h;refine Subscript_ (aQ (he pins s σ H _ I h) λv s1 z85_=>?_);let#[x,H1,I1,r1,q1]:=z85_;refine wpAny_Slice (aQ (hl pins s1 σ H1 _ I1 q1) λvl s2 ⟨l,H2,I2,pl,q2⟩=>aQ (hu pins s2 σ H2 _ I2 q2) λvu s3 z87_=>?_);let#[u,H3,I3,pu,q3]:=z87_;rw[evalPart_none];refine Ha ?_;have I4:Inv X pins σ H3 { s3 with heap:=s3.heap.push { cls:=.type "slice",data:=.fields (List.toArray [vl,vu,.none]) } }:=I3.kept (t':=s3.toks) λb ob q=>HW _ q;let#[T,id,hT,ht,hg]:=hr pins { s3 with heap:=s3.heap.push { cls:=.type "slice",data:=.fields (List.toArray [vl,vu,.none]) } } σ H3 x v vl vu l u s3.heap.objs.size Q I4 r1 (Heap.IsSliceOf.new ..) pl pu q3;show wpAny 0x3 X.A (subscriptTail e (.Slice lo hi none p2) v ↥s3.heap.objs.size) (EP X pins σ Q) X.xe { s3 with heap:=s3.heap.push { cls:=.type "slice",data:=.fields (List.toArray [vl,vu,.none]) } };exact tail_any (ops:=[↥s3.heap.objs.size,v]) ht hT hg (by with_unfolding_all rfl)
abbrev dM (xs:List V) (lo hi:Hl Int):List V:=(xs.drop (HT.sIx xs.length 0 lo)).take (HT.sIx xs.length xs.length hi - HT.sIx xs.length 0 lo)
def tE (xs:List V) (lo hi:Hl Int):(dM xs lo hi).length<=xs.length:=by
 unfold dM;rw[IE,J5]
 lia
abbrev uo (K:L7):V->Hl Int->Hl Int->Hp->VK->Prop:=λx lo hi H Q=>∃a xs,x=↥a/\aG K H a xs /\
 ¬ (HT.sIx xs.length 0 lo=0/\HT.sIx xs.length xs.length hi=xs.length)/\∀p,H p=none->Q ↥p (upd H p (.tup (dM xs lo hi)))
def Go:fW X (uo X.K):=by
 intro pins s σ H x v vl vu lo hi sl Q I rx hs pl pu h;let#[a,xs,rfl,hx,hw,q]:=h;cases rx;let#[its,r,ht,hz]:=I.tuple hx;have hlen:its.toArray.size=xs.length:=by rw[Hn]; exact r.length.symm
 show#["tuple",_,Im.lookup,ht.typeIs,?_];refine HT.getItem_tuple_cut ht hs pl pu (by rw[hlen]; exact hw) ?_ (by rw[hlen]; exact hz);rw[hlen];show#[↥s.heap.objs.size,_,I.laid (t':=s.toks) (o:=.tup (dM xs lo hi)) (λb ob q=>HW _ q) (HY _) ?_,rfl,q _ (I.hok.fresh (HY _))];show#[Hu (tE xs lo hi) hz,_,(r.drop (HT.sIx xs.length 0 lo)).take (HT.sIx xs.length xs.length hi - HT.sIx xs.length 0 lo),IsTup.new _ _]
end
abbrev cb (n:Nat) (i:Int):Hl Nat:=if 0<=i then(if i<n then ⇑i.toNat else none) else if -(n:Int)<=i then ⇑(i+n).toNat else none
abbrev aq {α:Type} (xs:List α) (i:Int):Hl α:=(cb xs.length i).bind λj=>xs[j]?
variable {n:Nat}
def uG {i:Int} {j:Nat} (h:cb n i=⇑j):seqIndex? i n=⇑j/\j<n/\-(n:Int)<=i/\i<n:=by
 unfold cb at h;by_cases h0:0<=i
 . rw[He h0] at h;by_cases h1:i<n
   . rw[He h1] at h;have e:i.toNat=j:=Option.some.inj h;show#[by rw[seqIndex_of h0 h1,e],∅,∅,h1]
   . rw[HX h1] at h; cases h
 . rw[HX h0] at h;by_cases h1:-(n:Int)<=i
   . rw[He h1] at h;have e:(i+n).toNat=j:=Option.some.inj h;show#[by rw[seqIndex_neg ∅ h1,e],∅,h1,∅]
   . rw[HX h1] at h; cases h
def qA {α:Type} {xs:List α} {i:Int} {v:α} (h:aq xs i=⇑v):∃j,seqIndex? i xs.length=⇑j/\xs[j]?=⇑v/\j<xs.length/\-(xs.length:Int)<=i/\i<xs.length:=by
 unfold aq at h;cases e:cb xs.length i with
 | none=>rw[e] at h; cases h
 | some j =>
   rw[e] at h;let#[h1,h2,h3,h4]:=uG e;show#[j,h1,h,h2,h3,h4]
def bv {α:Type} {xs:List α} {j:Nat} {v:α} (h:xs[j]?=⇑v):aq xs (j:Int)=⇑v:=by
 have hj:j<xs.length:=(HV.mp h).1;have e:cb xs.length (j:Int)=⇑j:=by unfold cb;rw[He ∅,He ∅]; simp
 unfold aq; rw[e]; exact h
def qg {α:Type} (xs:List α) (v:α):aq (xs++[v]) (-1)=⇑v:=by
 have hl:(xs++[v]).length=xs.length+1:=by simp
 have e:cb (xs++[v]).length (-1)=⇑xs.length:=by
   unfold cb;rw[hl,HX #[],He ∅];congr 1
   lia
 unfold aq;rw[e];show(xs++[v])[xs.length]?=⇑v;simp
abbrev pR (b:Expr):Prop:=∀o i,subscripted b false o i=operate [o,i] (getItem o i)
abbrev am (X:Cx) (r:R2):Prop :=
 ∀(value slice:Expr) (pins:List (L6×Obj)) (s:L5) (σ:St) (H:Hp) (x y:V) (v u:K') (Q:VK),Inv X pins σ H s->aX x v->aX y u->r x y H Q ->
   subscripted slice false v u=operate [v,u] (getItem v u)->wpAny 0x3 X.A (subscriptTail value slice v u) (EP X pins σ Q) X.xe s
abbrev mS (X:Cx) (id:String) (r:V->List V->Hp->VK->Prop):Prop :=
 ∀(pins:List (L6×Obj)) (s:L5) (σ:St) (H:Hp) (x:V) (xs:List V) (v:K') (us:List K') (Q:VK),Inv X pins σ H s->aX x v->aU xs us->r x xs H Q ->
   wpAny 0x3 X.A (call (.builtin id) (v::us)) (EP X pins σ Q) X.xe s
variable {x:V}
section
variable {X:Cx} {a b:Expr} {ta tb:TE} {pos:Pos}
def ae {r:R2} (hr:am X r) (ha:PE X a ta) (hb:PE X b tb) (hs:pR b):PE X (.Subscript a b pos) (gT r ta tb):=by intro pins s σ H Q I h;exact Subscript_ (pN ha hb I h λv u s2 x y H2 I2 rx ry q=>hr a b pins s2 σ H2 x y v u Q I2 rx ry q (hs _ _))
abbrev A8 (K:L7):R2:=λx y H Q=>∃p xs i v,x=↥p/\y=.int i/\aE K H p xs/\aq xs i=⇑v/\Q v H
abbrev lq (K:L7):R2:=λx y H Q=>∃p xs i v,x=↥p/\y=.int i/\aG K H p xs/\aq xs i=⇑v/\Q v H
abbrev D3:R2:=λx y H Q=>∃z i c,x=.str z/\y=.int i/\z.length<=sizeLine/\aq z.cps.toList i=⇑c/\Q (.str #[(List.toArray [c])]) H
def gk:am X (A8 X.K):=by
 intro value slice pins s σ H x y v u Q I rx ry h hs;let#[p,xs,i,z,rfl,rfl,hq,he,q]:=h;cases rx;let#[t,rfl]:=ry;let#[its,r,pl,hz]:=I.list hq;let#[j,h1,h2,h3,h4,h5]:=qA he;let#[w,ew,rw']:=r.get h2;have hl:=r.length;have hn:=ir;have fin:EP X pins σ Q w s:=#[z,H,I,rw',q]
 by_cases h0:0<=i
 . have hj:i.toNat=j:=by rw[seqIndex_of h0 h5] at h1;exact Option.some.inj h1
   exact item_listR pl.isList h0 ∅ (by rw[hj]; simpa using ew) fin hs
 . have hj:(i+(its.toArray.size:Int)).toNat=j:=by rw[seqIndex_neg ∅ h4] at h1;rw[Hn,<- hl];exact Option.some.inj h1
   exact subscriptTail_builtinR (x:=w) pl.isList.typeIs slot_list_getitem.lookup
     (wpAny_getItem_list_neg (Q:=λr s'=>r=w/\EP X pins σ Q r s') pl.isList ∅ (by rw[Hn] <;> lia) ∅ (by rw[hj]; simpa using ew) #[rfl,fin]) hs
def eY:am X (lq X.K):=by
 intro value slice pins s σ H x y v u Q I rx ry h hs;let#[p,xs,i,z,rfl,rfl,hq,he,q]:=h;cases rx;let#[t,rfl]:=ry;let#[its,r,pl,hz]:=I.tuple hq;let#[j,h1,h2,h3,h4,h5]:=qA he;let#[w,ew,rw']:=r.get h2;have hl:=r.length;have hn:=ir;have fin:EP X pins σ Q w s:=#[z,H,I,rw',q]
 exact subscriptTail_builtinR (x:=w) pl.typeIs slot_tuple_getitem.lookup
   (getItem_tuple (j:=j) (Q:=λr s'=>r=w/\EP X pins σ Q r s') pl ∅ ∅ (by rw[Hn,<- hl]; exact h1) ↑ew #[rfl,fin]) hs
def pE:am X D3:=by
 intro value slice pins s σ H x y v u Q I rx ry h hs;let#[z,i,c,rfl,rfl,hz,he,q]:=h;let#[t,rfl]:=rx;let#[t',rfl]:=ry;let#[j,h1,h2,h3,h4,h5]:=qA he;have hl:z.cps.toList.length=z.length:=by simp [Str.length]
 rw[hl] at h1 h4 h5;have hn:=ir;exact tail_any (typeIs_str s z t) slot_str_getitem.lookup (getItem_str (c:=c) (by have e1:decide (i < -(2 ^ 63:Int))=false:=IU ∅;have e2:decide (i>=2 ^ 63)=false:=IU ∅;rw[e1,e2,Ky]) (by rw[h1]; simpa using h2) #[.str #[(List.toArray [c])],H,I.tok _,#[5],q]) hs
def EQ (its:List K') (n j:Nat) (u:K'):Obj.mapSeq (·.setIfInBounds j u) { cls:=.type "list",data:=.seq its.toArray n }={ cls:=.type "list",data:=.seq (its.set j u).toArray n }:=by simp [Obj.mapSeq]
def Inv.lst {pins:List (L6×Obj)} {σ:St} {H:Hp} {s:L5} {p:L6} {xs:List V} (I:Inv X pins σ H s) (h:H p=⇑(.lst xs)) :
   ∃(its:List K') (n:Nat),aU xs its/\s.heap.get? p=some { cls:=.type "list",data:=.seq its.toArray n }/\xs.length<=sizeLine:=by
 let#[z,its,n,r,e]:=I.hok p _ h;show#[its,n,r,e,z]
def Inv.lstUpd {pins:List (L6×Obj)} {σ:St} {H:Hp} {s:L5} {p:L6} {xs ys:List V} {its its':List K'} {n':Nat}{f:Obj->Obj} (I:Inv X pins σ H s) (h:H p=⇑(.lst xs))
   (ho:s.heap.get? p=some { cls:=.type "list",data:=.seq its.toArray n }) (hf:f { cls:=.type "list",data:=.seq its.toArray n }={ cls:=.type "list",data:=.seq its'.toArray n' }) (r:aU ys its') (hz:ys.length<=sizeLine) (t:Nat) :
   Inv X pins σ (upd H p (.lst ys)) { s with heap:=s.heap.update p f,toks:=t }:=by
 have e:(s.heap.update p f).get? p=some { cls:=.type "list",data:=.seq its'.toArray n' }:=by rw[J8 f ho (by rw[hf] <;> rfl),hf]
 refine I.write (x:=p) (e:=p) (by rw[h]; trivial) (.inl rfl) (λb u hb q=>(Ip _ _ (Ne.symm hb))\q) #[_,e] ?_;show#[hz,its',n',r,e]
abbrev EV:V->V->V->Hp->(Hp->Prop)->Prop:=λo i v H Q=>∃p xs k j,o=↥p/\i=.int k/\H p=⇑(.lst xs)/\cb xs.length k=⇑j/\Q (upd H p (.lst (xs.set j v)))
def kZ:wT X EV:=by
 intro pins s σ H o i v ov iv u Q I ro ri rv h;let#[p,xs,k,j,rfl,rfl,hp,hj,q]:=h;cases ro;let#[t,rfl]:=ri;let#[its,n,r,ho,hz]:=I.lst hp;let#[h1,h2,h3,h4]:=uG hj;have hl:=r.length;have hn:=ir;have I':Inv X pins σ (upd H p (.lst (xs.set j v))) { s with heap:=s.heap.update p (Obj.mapSeq (·.setIfInBounds j u)) } :=
   I.lstUpd hp ho (EQ its n j u) (r.set rv j) (by rw[Je]; exact hz) s.toks
 by_cases h0:0<=k
 . have hk:k.toNat=j:=by rw[seqIndex_of h0 h4] at h1;exact Option.some.inj h1
   exact PySem.W.ki_setAt ho h0 ∅ (by rw[Hn,<- hl]; exact h4) (by rw[hk]; show#[_,I',q])
 . have hk:(k+(its.toArray.size:Int)).toNat=j:=by rw[seqIndex_neg ∅ h3] at h1;rw[Hn,<- hl];exact Option.some.inj h1
   exact PySem.W.ki_setBack ho ∅ (by rw[Hn,<- hl]; exact h3) ∅ (by rw[hk]; show#[_,I',q])
def DH (lo hi:Hl Int) (n:Nat):(sliceBounds lo hi none n).1=((HT.sIx n 0 lo:Nat):Int)/\(sliceBounds lo hi none n).2.1=((HT.sIx n n hi:Nat):Int)/\(sliceBounds lo hi none n).2.2=1:=by
 show#[?_,?_,rfl]
 . cases lo with
   | none=>simp [sliceBounds,HT.sIx]
   | some i =>
     simp only[sliceBounds,HT.sIx,Option.getD_none,show(1:Int) > 0 by decide,if_true];by_cases h:i<0
     . simp only[h,if_true] <;> lia
     . simp only[h,if_false] <;> lia
 . cases hi with
   | none=>simp [sliceBounds,HT.sIx]
   | some i =>
     simp only[sliceBounds,HT.sIx,Option.getD_none,show(1:Int) > 0 by decide,if_true];by_cases h:i<0
     . simp only[h,if_true] <;> lia
     . simp only[h,if_false] <;> lia
def FE (its:List K') (lo hi:Hl Int):slicePick its.toArray lo hi none=((its.drop (HT.sIx its.length 0 lo)).take (HT.sIx its.length its.length hi - HT.sIx its.length 0 lo)).toArray:=by let#[h1,h2,h3]:=DH lo hi its.toArray.size;unfold slicePick;rw[h1,h2,h3];simp only[sliceRange_one,pick_run,Hn] <;> rfl
abbrev zh (K:L7):V->Hl Int->Hl Int->Hp->VK->Prop:=λx lo hi H Q=>∃a xs,x=↥a/\aE K H a xs/\∀p,H p=none->Q ↥p (upd H p (.lst (dM xs lo hi)))
def hJ:fW X (zh X.K):=by intro pins s σ H x v vl vu lo hi sl Q I rx hs pl pu h;let#[a,xs,rfl,hx,q]:=h;cases rx;let#[its,r,ht,hz]:=I.list hx;have hlen:=r.length;show#["list",_,slot_list_getitem.lookup,ht.isList.typeIs,?_];refine wpAny_getItem_list_slice ht.isList hs pl pu .none 0x8 ?_ (by rw[Hn] <;> lia);rw[FE,<- hlen];show#[↥s.heap.objs.size,_,I.laid (t':=s.toks) (o:=.lst (dM xs lo hi)) (λb ob q=>HW _ q) (HY _) ?_,rfl,q _ (I.hok.fresh (HY _))];show#[Hu (tE xs lo hi) hz,_,(0),(r.drop (HT.sIx xs.length 0 lo)).take (HT.sIx xs.length xs.length hi - HT.sIx xs.length 0 lo),Hs _ rfl]
abbrev eM:V->Bool
 | .non=>true
 | .bl _=>true
 | .int _=>true
 | .str _=>true
 | _=>false
abbrev dS:V->V->Bool
 | .non,.non=>true
 | .bl a,.bl b=>a==b
 | .bl a,.int b=>(if a then 1 else 0)==b
 | .int a,.bl b=>a==(if b then 1 else 0)
 | .int a,.int b=>a==b
 | .str a,.str b=>a==b
 | _,_=>false
def Bu {A:Around} {s:L5} {y:V}{u v:K'} (ry:aX y u) (rx:aX x v) (fy:eM y=true) (fx:eM x=true):SeqAt.EqAt A s u v (dS y x):=by
 cases y with
 | non =>
   cases ry;cases x with
   | non=>cases rx; exact SeqAt.EqAt.same _
   | bl b=>cases rx; exact SeqAt.EqAt.none_bool b
   | int b=>let#[t,rfl]:=rx; exact SeqAt.EqAt.none_int b t
   | str b=>let#[t,rfl]:=rx; exact SeqAt.EqAt.none_str b t
   | _=>exact absurd (show false=true from fx) Ho
 | bl a =>
   cases ry;cases x with
   | non=>cases rx; exact SeqAt.EqAt.bool_none a
   | bl b=>cases rx; exact SeqAt.EqAt.bool_bool a b
   | int b=>let#[t,rfl]:=rx; exact SeqAt.EqAt.bool_int a b t
   | str b=>let#[t,rfl]:=rx; exact SeqAt.EqAt.bool_str a b t
   | _=>exact absurd (show false=true from fx) Ho
 | int a =>
   let#[t',rfl]:=ry;cases x with
   | non=>cases rx; exact SeqAt.EqAt.int_none a t'
   | bl b=>cases rx; exact SeqAt.EqAt.int_bool a t' b
   | int b=>let#[t,rfl]:=rx; exact SeqAt.EqAt.int_int a t' b t
   | str b=>let#[t,rfl]:=rx; exact SeqAt.EqAt.int_str a t' b t
   | _=>exact absurd (show false=true from fx) Ho
 | str a =>
   let#[t',rfl]:=ry;cases x with
   | non=>cases rx; exact SeqAt.EqAt.str_none a t'
   | bl b=>cases rx; exact SeqAt.EqAt.str_bool a t' b
   | int b=>let#[t,rfl]:=rx; exact SeqAt.EqAt.str_int a t' b t
   | str b=>let#[t,rfl]:=rx; exact SeqAt.EqAt.str_str a t' b t
   | _=>exact absurd (show false=true from fx) Ho
 | _=>exact absurd (show false=true from fy) Ho
abbrev dF (x:V) (u:K'):Bool:=match u with
 | .none=>dS .non x
 | .bool b=>dS (.bl b) x
 | .int i _=>dS (.int i) x
 | .str z _=>dS (.str z) x
 | _=>false
def om {y:V}{u:K'} (r:aX y u) (f:eM y=true):dF x u=dS y x:=by
 cases y with
 | non=>cases r; rfl
 | bl b=>cases r; rfl
 | int i=>let#[t,rfl]:=r; rfl
 | str z=>let#[t,rfl]:=r; rfl
 | _=>exact absurd (show false=true from f) Ho
def nT :∀{xs:List V} {us:List K'},aU xs us->xs.all eM=true->us.any (dF x)=xs.any λy=>dS y x:=by
 intro xs us h f
 induction h with
 | nil=>rfl
 | cons r t ih =>
   rw[List.all_cons,IN] at f;rw[K6,K6,om r f.1,ih f.2]
def kM {A:Around} {s:L5} {v:K'} (rx:aX x v) (fx:eM x=true):∀{xs:List V} {us:List K'},aU xs us->xs.all eM=true->∀u∈us,SeqAt.EqAt A s u v (dF x u):=by
 intro xs us h f
 induction h with
 | nil=>intro u hu; cases hu
 | cons r t ih =>
   intro u' hu;rw[List.all_cons,IN] at f;rcases Hh.mp hu with rfl|hu
   . rw[om r f.1]; exact Bu r rx f.1 fx
   . exact ih f.2 u' hu
abbrev eS (x:V) (xs:List V):Bool:=xs.any λy=>dS y x
abbrev rIn (K:L7) (neg:Bool):R2:=λx y H Q=>∃p xs,y=↥p/\(aE K H p xs\/aG K H p xs)/\eM x=true/\xs.all eM=true/\Q (.bl (if neg then !eS x xs else eS x xs)) H
def jj:bS X (compareOp .In) (rIn X.K false):=by
 intro pins s σ H x y v u Q I rx ry h;let#[p,xs,rfl,hq,fx,fs,q]:=h;cases ry;rcases hq with hq|hq
 . let#[its,r,pl,hz]:=I.list hq;refine SeqAt.in_listAt (dF x) pl.isList (λw hw=>kM rx fx r fs w ↑hw) #[.bl _,H,I,rfl,?_];rw[show its.toArray.any (dF x)=its.any (dF x) by simp,nT r fs];exact q
 . let#[its,r,pl,hz]:=I.tuple hq;refine SeqAt.in_tupleAt (dF x) pl (λw hw=>kM rx fx r fs w ↑hw) #[.bl _,H,I,rfl,?_];rw[show its.toArray.any (dF x)=its.any (dF x) by simp,nT r fs];exact q
def su:bS X (compareOp .NotIn) (rIn X.K true):=by
 intro pins s σ H x y v u Q I rx ry h;let#[p,xs,rfl,hq,fx,fs,q]:=h;cases ry;rcases hq with hq|hq
 . let#[its,r,pl,hz]:=I.list hq;refine SeqAt.notIn_listAt (dF x) pl.isList (λw hw=>kM rx fx r fs w ↑hw) #[.bl _,H,I,rfl,?_];rw[show its.toArray.any (dF x)=its.any (dF x) by simp,nT r fs];exact q
 . let#[its,r,pl,hz]:=I.tuple hq;refine SeqAt.notIn_tupleAt (dF x) pl (λw hw=>kM rx fx r fs w ↑hw) #[.bl _,H,I,rfl,?_];rw[show its.toArray.any (dF x)=its.any (dF x) by simp,nT r fs];exact q
def ix:aw X (.builtin "len") (λxs H Q=>∃p ys,xs=[↥p]/\(aE X.K H p ys\/aG X.K H p ys)/\Q (.int ys.length) H):=by
 intro pins s σ H xs us Q I r h;let#[p,ys,rfl,hq,q]:=h;let#[u,rfl,rx]:=gK r;cases rx;have hn:=ir;rcases hq with hq|hq
 . let#[its,r',pl,hz]:=I.list hq;have hlen:=r'.length;exact Calls.call_len_list pl.isList (by simp only[Hn] <;> lia) #[.int ys.length,H,I.tok _,#[s.toks+1,by rw[Hn,hlen]],q]
 . let#[its,r',pl,hz]:=I.tuple hq;have hlen:=r'.length;exact len_tuple pl (by simp only[Hn] <;> lia) #[.int ys.length,H,I.tok _,#[s.toks+1,by rw[Hn,hlen]],q]
def p8:aw X (.type "list") (λxs H Q=>∃p ys,xs=[↥p]/\(aE X.K H p ys\/aG X.K H p ys)/\∀l,H l=none->Q ↥l (upd H l (.lst ys))):=by
 intro pins s σ H xs us Q I r h;let#[p,ys,rfl,hq,q]:=h;let#[u,rfl,rx]:=gK r;cases rx;have fin:∀(its:List K'),aU ys its->ys.length<=sizeLine->∀(h':Heap) (c':Nat),(∀b o',s.heap.get? b=⇑o'->h'.get? b=⇑o') ->
     h'.get? s.heap.objs.size=some { cls:=.type "list",dict:=none,data:=.seq its.toArray c',slots:=0xC }->EP X pins σ Q ↥s.heap.objs.size { s with heap:=h' }:=λits r' hz h' c' kp e =>
   #[↥s.heap.objs.size,_,I.laid (t':=s.toks) kp (HY _) (show bX X.prog X.w _ h' _ (.lst ys) from#[hz,its,c',r',e]),rfl,q _ (I.hok.fresh (HY _))]
 rcases hq with hq|hq
 . let#[its,r',pl,hz]:=I.list hq;have hlen:=r'.length;let#[o,ho,hc,n,hd]:=pl.isList;exact call_list_seq p (.inl rfl) ho hc hd (λh' c' kp e=>fin its r' hz h' c' kp e) (by simp only[Hn] <;> lia)
 . let#[its,r',pl,hz]:=I.tuple hq;have hlen:=r'.length;let#[o,ho,hc,n,hd]:=pl;exact call_list_seq p (.inr rfl) ho hc hd (λh' c' kp e=>fin its r' hz h' c' kp e) (by simp only[Hn] <;> lia)
def jH:aw X (.type "tuple") (λxs H Q=>∃p ys,xs=[↥p]/\((aE X.K H p ys/\∀l,H l=none->Q ↥l (upd H l (.tup ys)))\/(aG X.K H p ys/\Q ↥p H))):=by
 intro pins s σ H xs us Q I r h;let#[p,ys,rfl,h]:=h;let#[u,rfl,rx]:=gK r;cases rx;rcases h with⟨hq,q⟩|⟨hq,q⟩
 . let#[its,r',pl,hz]:=I.list hq;have hlen:=r'.length;refine call_tuple_list pl.isList (λh' kp=>?_) (by simp only[Hn] <;> lia);have I1:Inv X pins σ H { s with heap:=h' }:=I.kept (t':=s.toks) kp;have I2:Inv X pins σ (upd H h'.objs.size (.tup ys)) { s with heap:=h'.push { cls:=.type "tuple",data:=.seq its.toArray } } :=
     I1.laid (t':=s.toks) (λb o e=>HW _ e) (HY _) (show bX X.prog X.w _ _ _ (.tup ys) from#[hz,its,r',IsTup.new _ _])
   show#[↥h'.objs.size,_,I2,rfl,q _ (I1.hok.fresh (HY _))]
 . let#[its,r',pl,hz]:=I.tuple hq;exact call_tuple_same pl #[↥p,H,I,rfl,q]
abbrev pk (K:L7) (T:String) (x:V) (H:Hp):Prop:=match x with
 | .str _=>T="str"
 | .int _=>T="int"
 | .ref p=>(T="list"/\∃xs,aE K H p xs)\/(T="tuple"/\∃o,K.lookup p=⇑o/\o.cls=.type "tuple"/\o.dict=none) \/
     (T="dict"/\((∃kvs,H p=⇑(.dK kvs))\/∃kvs,H p=⇑(.dT kvs)))\/(T="set"/\∃S n,H p=⇑(.set S n))
 | _=>False
def vm {pins:List (L6×Obj)} {σ:St} {H:Hp} {s:L5} {T:String} {v:K'} (I:Inv X pins σ H s) (r:aX x v) (ty:pk X.K T x H) :
   s.TypeIs v T/\∀a,v=↥a->∃ob,s.heap.get? a=⇑ob/\ob.dict=none:=by
 cases x with
 | str z =>
   let#[t,rfl]:=r;cases (show T="str" from ty);show#[typeIs_str s z t,λ_ e=>nomatch e]
 | int i =>
   let#[t,rfl]:=r;cases (show T="int" from ty);show#[typeIs_int s i t,λ_ e=>nomatch e]
 | ref p =>
   cases r;rcases ty with⟨rfl,xs,hq⟩|⟨rfl,o,hk,hc,hd⟩|⟨rfl,hk⟩|⟨rfl,S,n,hk⟩
   . let#[its,_,pl,_]:=I.list hq;show#[pl.isList.typeIs,λa e=>?_];cases e;let#[o,n,e,c,hd,_]:=pl;show#[o,e,hd]
   . show#[#[o,I.kIn p o hk,hc],λa e=>?_];cases e;show#[o,I.kIn _ o hk,hd]
   . have z:∃o,s.heap.get? p=⇑o/\o.ExactDict:=by
       rcases hk with⟨kvs,hk⟩|⟨kvs,hk⟩
       . let#[_,_,_,_,o,_,_,e,ex,_]:=I.hok p _ hk;show#[o,e,ex]
       . let#[_,_,_,_,o,_,_,e,ex,_]:=I.hok p _ hk;show#[o,e,ex]
     let#[o,e,ex]:=z;show#[#[o,e,ex.1],λa e2=>?_];cases e2;show#[o,e,ex.2.1]
   . let#[o,_,_,_,e,ex,_]:=I.hok p _ hk;show#[#[o,e,ex.1],λa e2=>?_];cases e2;show#[o,e,ex.2.1]
 | _=>exact False.elim ty
abbrev Gn (K:L7) (T:String) (r:V->List V->Hp->VK->Prop) (to:TE):TE:=λσ H Q=>to σ H λx H1=>pk K T x H1/\r x [] H1 Q
abbrev tBM (K:L7) (T:String) (r:V->List V->Hp->VK->Prop) (to:TE) (t:TA):TE:=λσ H Q=>to σ H λx H1=>pk K T x H1/\t σ H1 λxs H2=>r x xs H2 Q
variable {o e:Expr} {es:List Expr} {to:TE} {t:TA} {name:Str} {apos cpos:Pos} {T id:String} {r:V->List V->Hp->VK->Prop}
def qt (pa:PlainAttrs T) (slot:Slot T name id) (hty:typeOf (.builtin id)=pure (.type "method_descriptor")) (hm:mS X id r) (ho:PE X o to)
   (hbase:attributeBase o name X.env (eval o X.env)=eval o X.env:=by rfl) (hline:(apos.endLine==cpos.line)=true:=by rfl):PE X (.Call (.Attribute o name apos) [] [] cpos) (Gn X.K T r to):=by
 intro pins s σ H Q I h;refine Ko hbase hline (aQ (ho pins s σ H _ I h) λv s1 z88_=>?_);let#[x,H1,I1,r1,ty,q1]:=z88_;let#[h1,h2]:=vm I1 r1 ty;show#[T,id,pa,slot,hty,h1,h2,Calls.callWith_builtin rfl (PySem.evalArgs_none (hm pins s1 σ H1 x [] v [] Q I1 r1 .nil q1))]
def cU (pa:PlainAttrs T) (slot:Slot T name id) (hty:typeOf (.builtin id)=pure (.type "method_descriptor")) (hm:mS X id r) (ho:PE X o to) (ha:PA X (e::es) t)
   (hbase:attributeBase o name X.env (eval o X.env)=eval o X.env:=by rfl)
   (hfew:((backTo cpos (starEach (e::es) X.env)).all (λx=>!x.1)&&(backToKw cpos (keywordEach [] X.env)).all (λx=>x.1.isSome)
     && decide ((e::es).length+([]:List Keyword).length+(if([]:List Keyword).isEmpty then 0 else 1)<30))=true:=by rfl)
   (hline:(apos.endLine==cpos.line)=true:=by rfl) (hs:starEach (e::es) X.env=(false,eval e X.env)::starEach es X.env:=by rfl) (hplain:(backTo cpos (starEach es X.env)).any (·.1)=false:=by rfl) :
   PE X (.Call (.Attribute o name apos) (e::es) [] cpos) (tBM X.K T r to t):=by
 intro pins s σ H Q I h;refine wpAny_Call_method_late hbase hfew hline rfl (aQ (ho pins s σ H _ I h) λv s1 z89_=>?_);let#[x,H1,I1,r1,ty,q1]:=z89_;let#[h1,h2]:=vm I1 r1 ty;show#[T,id,pa,slot,hty,h1,h2,?_];have hA:=ha cpos pins s1 σ H1 _ I1 q1;rw[hs] at hA ⊢;refine Calls.callWith_builtin (by show(false || (backTo cpos (starEach es X.env)).any (·.1))=false; rw[hplain] <;> rfl) (Calls.evalArgs_plain ?_);exact aQ hA λus s2 z90_=>by let#[vs,H2,I2,r2,q2]:=z90_; exact hm pins s2 σ H2 x vs v us Q I2 r1 r2 q2
end
abbrev jR (X:Cx) (id:String) (r:V->List V->Hp->VK->Prop):Prop :=
 ∀(pins:List (L6×Obj)) (s:L5) (σ:St) (H:Hp) (x:V) (xs:List V) (v:K') (us:List K') (Q:VK),Inv X pins σ H s->aX x v->aU xs us->r x xs H Q ->
   wpAny 0x3 X.A (call (.builtin id) (v::us)) (EP X pins σ Q) X.xe s
def aU.one:∀{x:V} {us:List K'},aU [x] us->∃u,us=[u]/\aX x u:=by
 intro x us h;cases h with
 | cons r t=>cases t; show#[5,r]
def aU.zero:∀{us:List K'},aU [] us->us=[]
 | _,.nil=>rfl
def aU.dropLast {xs:List V} {us:List K'} (h:aU xs us):aU xs.dropLast us.dropLast:=by
 induction h with
 | nil=>exact .nil
 | cons r t ih =>
   cases t with
   | nil=>exact .nil
   | cons q t'=>exact .cons r ih
def aU.rep {xs:List V} {us:List K'} (h:aU xs us):∀k:Nat,aU (List.replicate k xs).flatten (List.replicate k us).flatten
 | 0=>.nil
 | k+1=>by rw[JK,JK,J2,J2];exact aU.append h (aU.rep h k)
def DI {α:Type} (l:List α):l.eraseIdx (l.length - 1)=l.dropLast:=by
 induction l with
 | nil=>rfl
 | cons a r ih =>
   cases r with
   | nil=>rfl
   | cons b r =>
     have e:(a::b::r).length - 1=((b::r).length - 1)+1:=by
       have h1:(a::b::r).length=r.length+2:=rfl;have h2:(b::r).length=r.length+1:=rfl
       lia
     rw[e,List.eraseIdx_cons_succ,ih]
     all_goals rfl
def rZ (its:List K'):∀(k:Nat) (acc:List K'),
   List.foldl (λx1 x2=>x1++x2) acc.toArray (List.replicate k its.toArray)=(acc++(List.replicate k its).flatten).toArray
 | 0,acc=>by simp
 | k+1,acc=>by
   have e:acc.toArray++its.toArray=(acc++its).toArray:=by simp
   have e2:(acc++its)++(List.replicate k its).flatten=acc++(List.replicate (k+1) its).flatten:=by rw[JK,J2,Ib]
   rw[<- e2,<- rZ its k (acc++its),<- e,JK,Jf]
section
variable {X:Cx} {pins:List (L6×Obj)} {σ:St} {H:Hp} {s:L5} {l b:L6} {xs ys zs:List V}
def Inv.lset {its its':List K'} {f:Array K'->Array K'} {t':Nat} (I:Inv X pins σ H s) (hH:H l=⇑(.lst xs))
   (e:s.heap.get? l=some { cls:=.type "list",data:=.seq its.toArray n }) (hf:f its.toArray=its'.toArray) (hv:aU ys its') (hz:ys.length<=sizeLine) :
   Inv X pins σ (upd H l (.lst ys)) { s with heap:=s.heap.update l (Obj.mapSeq f),toks:=t' }:=by
 have q:=PySem.IsL.update e f;rw[hf] at q;refine I.write (x:=l) (e:=l) (by rw[hH]; exact trivial) (.inl rfl) (λb' u hb hu=>(Ip s.heap (Obj.mapSeq f) (Ne.symm hb))\hu) #[_,q] ?_;show#[hz,its',_,hv,q]
def Inv.lnew {its:List K'} {t':Nat} (I:Inv X pins σ H s) (hv:aU ys its) (hz:ys.length<=sizeLine) :
   Inv X pins σ (upd H s.heap.objs.size (.lst ys)) { s with heap:=s.heap.push { cls:=.type "list",data:=.seq its.toArray },toks:=t' } :=
 I.laid (λ_ _ q=>HW _ q) (HY _) #[hz,its,(0),hv,Hs _ rfl]
def Inv.fresh (I:Inv X pins σ H s):H s.heap.objs.size=none:=I.hok.fresh (HY _)
def Inv.lstM (I:Inv X pins σ H s) (hH:H l=⇑(.lst xs)):xs.length<=sizeLine/\∃(its:List K') (n:Nat),aU xs its/\xs.length=its.length/\s.heap.get? l=some { cls:=.type "list",data:=.seq its.toArray n }:=by let#[z,its,n,r,e]:=I.hok l _ hH;show#[z,its,n,r,r.length,e]
def qM (h:n<=sizeLine):Builtin.List.listTooLong n=false:=by unfold Builtin.List.listTooLong;exact IU ∅
end
section
variable {X:Cx}
abbrev AE:V->List V->Hp->VK->Prop:=λx vs H Q=>∃l xs y,x=↥l/\vs=[y]/\H l=⇑(.lst xs)/\xs.length<sizeLine/\Q .non (upd H l (.lst (xs++[y])))
def jD:jR X "list.append" AE:=by
 intro pins s σ H x vs v us Q I rx rv h;let#[l,xs,y,rfl,rfl,hH,hz,q]:=h;cases rx;let#[u,rfl,ru]:=rv.one;let#[z,its,n,r,hl,e]:=I.lstM hH;refine call_meets F.slot_list_append #[_,e,rfl] F.entry_list_append (F.args_list_append_2 _ _) (PySem.list_append l its.toArray n u (by rw[Hn]; lia)) #[e,?_];show#[.non,_,I.lset (its':=its++[u]) hH e 0x8 (r.append (.cons ru .nil)) ?_,rfl,q];rw[HZ,JR]
 lia
abbrev BU:V->List V->Hp->VK->Prop:=λx vs H Q=>∃l b xs zs,x=↥l/\vs=[↥b]/\H l=⇑(.lst xs)/\H b=⇑(.lst zs)/\xs.length+zs.length<=sizeLine/\Q .non (upd H l (.lst (xs++zs)))
def qk:jR X "list.extend" BU:=by
 intro pins s σ H x vs v us Q I rx rv h;let#[l,b,xs,zs,rfl,rfl,hH,hB,hz,q]:=h;cases rx;let#[u,rfl,ru]:=rv.one;cases ru;let#[z,its,n,r,hl,e]:=I.lstM hH;let#[z2,its2,n2,r2,hl2,e2]:=I.lstM hB;have hsz:its.toArray.size+its2.toArray.size<=sizeLine:=by rw[Hn,Hn]; lia
 have hlong:¬ (!its.toArray.isEmpty&&Builtin.List.listTooLong (its.toArray.size+its2.toArray.size))=true:=by rw[qM hsz,Bool.and_false];exact Ho
 refine call_meets F.slot_list_extend #[_,e,rfl] F.entry_list_extend (F.args_list_extend_2 _ _)
   (AutoSeq1.list_extend_list_list_0 l its.toArray n b its2.toArray n2 hlong (by rw[Hn]; lia) ∅) #[e,e2,?_]
 show#[.non,_,I.lset (its':=its++its2) hH e 0x8 (r.append r2) ?_,rfl,q];rw[HZ]
 lia
abbrev Fp:V->List V->Hp->VK->Prop:=λx vs H Q=>∃l xs y,x=↥l/\vs=[]/\H l=⇑(.lst xs)/\xs[xs.length - 1]?=⇑y/\Q y (upd H l (.lst xs.dropLast))
def tO:jR X "list.pop" Fp:=by
 intro pins s σ H x vs v us Q I rx rv h;let#[l,xs,y,rfl,rfl,hH,hy,q]:=h;cases rx;have hus:=rv.zero;subst hus;let#[z,its,n,r,hl,e]:=I.lstM hH;let#[u,hu,ru]:=r.get hy;have hy':its.toArray[its.toArray.size - 1]?=⇑u:=by show its.toArray[its.length - 1]?=⇑u;rw[<- Array.getElem?_toList,<- hl];exact hu
 refine call_meets F.slot_list_pop #[_,e,rfl] F.entry_list_pop (F.args_list_pop_1 _) (MeetsSeq.list_pop_last l its.toArray n u hy' (by rw[Hn]; lia)) #[e,?_];show#[y,_,I.lset (its':=its.dropLast) hH e ?_ r.dropLast ?_,ru,q]
 . show its.toArray.eraseIdxIfInBounds (its.toArray.size - 1)=its.dropLast.toArray;rw[Hn,List.eraseIdxIfInBounds_toArray,DI]
 . rw[List.length_dropLast]
   lia
abbrev Au:V->List V->Hp->VK->Prop:=λx vs H Q=>∃l xs,x=↥l/\vs=[]/\H l=⇑(.lst xs)/\Q .non (upd H l (.lst []))
def Dw:jR X "list.clear" Au:=by intro pins s σ H x vs v us Q I rx rv h;let#[l,xs,rfl,rfl,hH,q]:=h;cases rx;have hus:=rv.zero;subst hus;let#[z,its,n,r,hl,e]:=I.lstM hH;refine call_meets F.slot_list_clear #[_,e,rfl] F.entry_list_clear (F.args_list_clear_1 _) (AutoSeq1.list_clear_list_0 l its.toArray n (by rw[Hn]; lia)) #[e,?_];show#[.non,_,I.lset (its':=[]) (ys:=[]) hH e rfl .nil (Hw _),rfl,q]
abbrev GW:R2:=λx y H Q=>∃l b xs zs,x=↥l/\y=↥b/\H l=⇑(.lst xs)/\H b=⇑(.lst zs)/\xs.length+zs.length<=sizeLine/\∀p,H p=none->Q ↥p (upd H p (.lst (xs++zs)))
def mJ:bS X (binaryOp .Add) GW:=by
 intro pins s σ H x y v u Q I rx ry h;let#[l,b,xs,zs,rfl,rfl,hH,hB,hz,q]:=h;cases rx;cases ry;let#[z,its,n,r,hl,e]:=I.lstM hH;let#[z2,its2,n2,r2,hl2,e2]:=I.lstM hB;refine PySem.P.add_list e e2 ?_ (by rw[Hn,Hn]; lia);have ea:its.toArray++its2.toArray=(its++its2).toArray:=by simp
 rw[ea];show#[↥_,_,I.lnew (t':=s.toks) (r.append r2) (by rw[HZ]; lia),rfl,q _ I.fresh]
abbrev Fj:R2:=λx y H Q=>∃l k xs,x=↥l/\y=.int k/\H l=⇑(.lst xs)/\-(2 ^ 63)<=k/\k<2 ^ 63/\xs.length * k.toNat<=sizeLine /\
 ∀p,H p=none->Q ↥p (upd H p (.lst (List.replicate k.toNat xs).flatten))
def uT {α:Type} (xs:List α) (k:Nat):(List.replicate k xs).flatten.length=k * xs.length:=by
 induction k with
 | zero=>simp
 | succ k ih=>rw[JK,J2,HZ,ih,Nat.succ_mul,Nat.add_comm]
def uP:bS X (binaryOp .Mult) Fj:=by
 intro pins s σ H x y v u Q I rx ry h;let#[l,k,xs,rfl,rfl,hH,h1,h2,hz,q]:=h;cases rx;let#[t,rfl]:=ry;let#[z,its,n,r,hl,e]:=I.lstM hH;have hlen:its.toArray.size * k.toNat<=sizeLine:=by rw[Hn,<- hl]; exact hz
 have hcap:¬ its.toArray.size * k.toNat > (2 ^ 63 - 1) / 8:=by
   have:(sizeLine:Nat)<=(2 ^ 63 - 1) / 8:=by decide
   lia
 have hfit:¬ (!Builtin.List.listFitsIndex k)=true:=by rw[fitsIndex_both h1 h2];exact Ho
 have hlong:¬ Builtin.List.listTooLong (its.toArray.size * k.toNat)=true:=by rw[qM hlen];exact Ho
 have hnew:List.foldl (λx1 x2=>x1++x2) 0xC (List.replicate (if its.toArray.isEmpty=true then 0 else k.toNat) its.toArray)=(List.replicate k.toNat its).flatten.toArray:=by
   have f0:∀m:Nat,List.foldl (λx1 x2=>x1++x2) 0xC (List.replicate m its.toArray)=(List.replicate m its).flatten.toArray:=λm=>by have:=rZ its m [];rw[Ku] at this;exact this
   rw[f0];cases its with
   | nil=>simp
   | cons a r'=>rw[HX 0x8]
 refine wpAny_binaryOp_repeat_ref (T:="list") (U:="int") #[] #[_,e,rfl] (λs'=>typeIs_int s' k t) noFill_list_mul F.fills_int_mul F.slot_int_rmul repeat_list F.slot_int_index.lookup
   (call_meets F.slot_int_rmul (typeIs_int s k t) F.entry_int_rmul (F.args_int_rmul_2 _ _) (int___rmul___int_list k t l its.toArray n)
     #[e,rfl,#[_,e,rfl],call_meets F.slot_list_mul #[_,e,rfl] F.entry_list_mul (F.args_list_mul_2 _ _) (AutoListH.list___mul___list_int_3 l its.toArray n k t hfit hcap hlong) #[e,?_]])
 rw[hnew];show#[↥_,_,I.lnew (t':=s.toks) (r.rep k.toNat) (by rw[uT,Nat.mul_comm]; exact hz),rfl,q _ I.fresh]
end
end L2
namespace Att
open PySem PySem.W PySem.Calls PyProof.Rows
def zc {P:Params} {h:Heap}:∀(ns:List Int) (vs:List K'),WellAll P h vs (ns.map WData.int)->IntsAre vs ns:=by
 intro ns
 induction ns with
 | nil =>
   intro vs w;rw[List.map_nil] at w;cases w;exact .nil
 | cons n ns ih =>
   intro vs w;rw[IF] at w;cases w with
   | cons a b =>
     cases a;exact .cons _ _ (ih _ b)
def FR {l:OpenLaw} {n:Nat} (hn:l.most=⇑n) {P:Params} {h:Heap} {args:List WData} {vals:List K'}
   (hpre:l.row.toRowW.claim.pre args=true) (hwl:WellAll P h vals args) :
   ∃a vs ns,vals=[Value.ref a]/\args=[WData.list (ns.map WData.int)]/\h.get? a=some { cls:=.type "list",data:=.seq vs.toArray }/\IntsAre vs ns/\ns.length<=n:=by
 have oj:WShape.hasAll [] args [.list .int]=true:=(pre_splitW hpre).1;have hc:l.pre.holds [] { args:=args }=true:=(pre_splitW hpre).2;let#[d,r,rfl,h1,h2]:=hasAllW_cons oj;obtain rfl:=hasAllW_nil h2;let#[xs,rfl,h3]:=hasW_list h1;let#[ns,rfl]:=items_int h3;have hlen:ns.length<=n:=by
   unfold OpenLaw.pre at hc;have h4:(WTm.not (.lt (.lit (.int (n:Int))) (.len (.arg 0)))).holds [] { args:=[.list (ns.map .int)] }=true:=by have h4:=(holds_andW hc).1;rw[hn] at h4;exact h4
   have h5:=condW_of h4 (w_not (w_lt w_lit (w_len_list (w_arg rfl))));rw[HS] at h5;refine Nat.le_of_not_lt λq=>?_;have q':(n:Int)<((ns.length:Nat):Int):=by lia
   first
     | (rw[Hf q'] at h5; exact absurd h5 #[])
     | (simp at h5; lia)
 cases hwl with
 | cons w1 w2 =>
   cases w2;cases w1 with
   | list ho hall=>show#[4,ns,7,ho,zc ns _ hall,hlen]
def DN (l:OpenLaw) (args:List WData):l.row.toRowW.claim.post args (.bool true) args=true :=
 postW_of (r:=l.row.toRowW) (X:=(true==true))
   (show WShape.has [] (.bool true) .bool=true by first|rfl|decide|simp [WShape.has,WShape.arms,WShape.armsAll])
   (show(WTm.eq .res (.lit (.bool true))).value [] { args:=args,res:=⇑(.bool true),after:=args }=⇑(.bool (true==true)) from w_eq_bool (w_res rfl) w_lit) rfl
def attach_call {l:OpenLaw} {n:Nat} {q:Program} {loose:List Str} {XP:(Str->Hl K')->Heap->Prop} {YP:World->Heap->Prop} {d:DefRec}
   (hn:l.most=⇑n) (hdf:d.params.defaults=[])
   (call:∀(w:World) (s₀ s₁:L5) (mg mb:Str->Hl K') (fa:L6) (o:Obj) (pm cd doc:K') (a:L6) (vs:List K') (ns:List Int),
     Ground q loose [] XP w s₀ mg mb s₁.heap->YP w s₁.heap ->
     s₁.heap.get? fa=⇑o->o.data=.func (docDef d.name d.params d.body d.scope pm cd doc)->s₁.heap.CodeRec cd d.name->mg d.name=⇑↥fa ->
     s₁.heap.get? a=some { cls:=.type "list",data:=.seq vs.toArray }->IntsAre vs ns->ns.length<=n->s₁.gens=0xC ->
     codeAny (model l.prog w) callerA (.call ↥fa #[[↥a],[]]) (λr s'=>r=.ok (.ret (.bool true))/\OldK s₁.heap s'.heap/\s'.os=s₁.os/\AllBare s'.gens) s₁) :
   WalkO q loose XP YP l.row.toRowW d [] (λf vs=>PySem.call f vs):=by
 intro w s₀ s₁ mg mb G Y fa o pm cd doc dV kV ho hd hcd hD hmg hg args vals as hpre hlay hrd hwl hlo;obtain rfl:dV=.none:=Dflts.none hD hdf;obtain rfl:kV=.none:=Dflts.noKw hD;let#[a,vs,ns,rfl,rfl,hobj,hints,hlen]:=FR hn hpre hwl;refine enter_call (Jk (call w s₀ s₁ mg mb fa o pm cd doc a vs ns G Y ho (fd_plain hd) hcd hmg hobj hints hlen hg) λr s' hq=>?_);let#[rfl,h2,h3,h4]:=hq;show#[.inl #[.bool true,.bool true,[],rfl,λ_=>rfl,.bool true,DN l _,λ_=>#[List.Pairwise.nil,λ_ hm=>(nomatch hm)]],h2,h3,h4]
end Att
namespace L2
open PySem PySem.Spec PyProof.Rows
def BX:∀{vs:List K'} {ns:List Int},IntsAre vs ns->aU (ns.map V.int) vs:=by
 intro vs ns h
 induction h with
 | nil=>exact .nil
 | cons n t h ih=>exact .cons #[t,rfl] ih
abbrev oK (H:Hp):Prop:=∀b,H b=none\/∃o xs,H b=⇑(.frz o (.lst xs))
variable {x:Str}
def GS {P:Program} {w:World} {K:L7} {mg mb:Str->Hl K'} {CX:eF} {k:Nat} {fa a:L6} {fd:FuncData} {sp:Sp} {s₁:L5} {vs:List K'} {ns:List Int}
   (KX:K.In s₁.heap) (hns:s₁.heap.Ns mainGlobals mg) (hb:s₁.heap.Ns builtinsNs mb) (hbb:∀x:Str,x≠"__name__"->mb x=bootBuiltins x) (hlim:s₁.heap.NoLimit) (hg:s₁.gens=0xC)
   (ha:s₁.heap.get? a=some { cls:=.type "list",data:=.seq vs.toArray }) (hi:IntsAre vs ns) (hl:ns.length<=sizeLine) (hr:Room k callerA)
   (F:∀base:Heap,K.In base->base.Ns mainGlobals mg->FnOk P w K mg base CX k fa fd [x] sp) (hbind:∀(s:L5) (u:K'),BindsTo s fd #[[u],[]] [(x,u)])
   (hsp:∀H:Hp,oK H->aE K H a (ns.map V.int)->sp [↥a] H (λv _=>v=.bl true) λ_ _ _=>False)
   (hCX:∀H e s',CX [] H s₁ (λ_ _ _=>False) e s'->False) :
   codeAny (model P w) callerA (.call ↥fa #[[↥a],[]]) (λr s'=>r=.ok (.ret (.bool true))/\OldK s₁.heap s'.heap/\s'.os=s₁.os/\AllBare s'.gens) s₁:=by
 have rv:=BX hi;have lenV:=hi.length
 -- from an abstract heap in which nothing but the script may be tracked
 have core:∀H:Hp,oK H->aE K H a (ns.map V.int)->bE P w H s₁.heap->(∀b,H b≠none->b=a)->(H a≠none->K.lookup a=none) ->
     codeAny (model P w) callerA (.call ↥fa #[[↥a],[]]) (λr s'=>r=.ok (.ret (.bool true))/\OldK s₁.heap s'.heap/\s'.os=s₁.os/\AllBare s'.gens) s₁:=by
   intro H hO hS hok hA hK;have base_of:∀{b:L6} {o:Obj},s₁.heap.get? b=⇑o->H b=none->(gI s₁.heap H).get? b=⇑o:=λe n=>Ee e n;have noA:∀{b:L6} {o:Obj} {es:Array DictEntry} {ep:Nat},s₁.heap.get? b=⇑o->o.data=.dict es ep->H b=none:=λ{b o es ep} e d=>by
     cases q:H b with
     | none=>rfl
     | some u =>
       have e':b=a:=hA b (by rw[q]; simp);subst e';rw[ha] at e; cases e;have d':Data.seq vs.toArray _=Data.dict es ep:=d;cases d'
   have nsK:∀{b:L6} {m:Str->Hl K'},s₁.heap.Ns b m->(gI s₁.heap H).Ns b m:=λ{b m} z93_=>by let#[o,es,ep,e,d,r]:=z93_; show#[o,es,ep,base_of e (noA e d),d,r]
   have hKb:K.In (gI s₁.heap H):=λb o e=>base_of (KX b o e) (by
     cases q:H b with
     | none=>rfl
     | some u =>
       have e':b=a:=hA b (by rw[q]; simp);subst e';rw[hK (by rw[q]; simp)] at e; cases e)
   have hM:Mod K mg (gI s₁.heap H):=#[hKb,nsK hns,#[mb,nsK hb,hbb],by let#[mc,h1,h2]:=hlim; show#[mc,nsK h1,h2]]
   have e0:Env0 P w K mg (gI s₁.heap H) callerA [] s₁ H:=#[rfl,hM,λb o e=>F4 e,Nat.le_of_eq (Gs _ _),trivial,λb hb=>absurd (show b∈([]:List L6) from hb) 0x8,hok,.of_eq hg]
   refine Jk ((F _ hKb (nsK hns)).run callerA [] s₁ H #[[↥a],[]] [↥a] [↥a] _ _ hr e0 (hbind s₁ ↥a) (.cons rfl .nil) (hsp H hO hS)) λr s' h=>?_;cases r with
   | error e=>exact(hCX H e s' h).elim
   | ok fl =>
     cases fl with
     | next=>exact False.elim h
     | brk=>exact False.elim h
     | cont=>exact False.elim h
     | ret u =>
       let#[v,H',os,bare,un,hok',r',q]:=h;have q':v=.bl true:=q;subst q';obtain rfl:u=Value.bool true:=r';show#[rfl,OldK.of_keep λb o e=>?_,os,bare];cases q:H b with
       | none=>exact un.keep b o e q (by intro z; exact absurd (show b∈([]:List L6) from z) 0x8) 0x8
       | some u =>
         rcases hO b with z|⟨ob,xs,z⟩
         . rw[q] at z; cases z
         . have z2:=un.frzs b ob _ z;let#[e1,_]:=hok b _ z;let#[e2,_]:=hok' b _ z2;rw[e] at e1; cases e1;exact e2
 cases hk:K.lookup a with
 | some o =>
   -- the script is one of the module's own objects
   have e:=KX a o hk;rw[ha] at e;cases e;refine core (λ_=>none) (λ_=>.inl rfl) (.inr #[_,vs.toArray,_,hk,15,by rw[Hn,lenV]; exact hl,by simpa using rv]) (λb u z=>by have z':(none:Hl HO)=⇑u:=z; cases z') (λb z=>absurd rfl z) λz=>absurd rfl z
 | none =>
   refine core (λb=>if b=a then ⇑(.frz { cls:=.type "list",data:=.seq vs.toArray } (.lst (ns.map V.int))) else none) (λb=>?_) (.inl (.inr #[{ cls:=.type "list",data:=.seq vs.toArray },He rfl])) (λb u z=>?_) (λb z=>?_) λ_=>hk
   . by_cases hb:b=a
     . exact .inr #[4,He hb]
     . exact .inl (HX hb)
   . by_cases hb:b=a
     . have z':=(He hb).symm.trans z;cases z';subst hb;show#[ha,by rw[HS]; exact hl,vs,_,rv,ha]
     . have z':=(HX hb).symm.trans z;cases z'
   . by_cases hb:b=a
     . exact hb
     . exact absurd (HX hb) z
noncomputable abbrev KOf {K:L7} {h:Heap} (_:K.In h):L7:=K
def Et {l:PySem.W.OpenLaw} {n k:Nat} {q:Program} {loose:List Str} {XP:(Str->Hl K')->Heap->Prop} {YP:World->Heap->Prop} {d:DefRec} {K:Params->L7} {CX:World->eF} {sp:World->Sp} 
   (hn:l.most=⇑n) (hn2:n<=sizeLine) (hdf:d.params.defaults=[]) (hr:Room k callerA)
   (hY:∀(w:World) (h:Heap),YP w h->(K w.params).In h)
   (F:∀(w:World) (mg:Str->Hl K') (fa:L6) (h:Heap),(K w.params).In h->h.Ns mainGlobals mg->mg d.name=⇑↥fa ->
     ∃fd:FuncData,(∀(s:L5) (u:K'),BindsTo s fd #[[u],[]] [(x,u)]) /\
       ∀base:Heap,(K w.params).In base->base.Ns mainGlobals mg->FnOk l.prog w (K w.params) mg base (CX w) k fa fd [x] (sp w))
   (hsp:∀(w:World) (H:Hp) (a:L6) (ns:List Int),ns.length<=n->oK H->aE (K w.params) H a (ns.map V.int)->sp w [↥a] H (λv _=>v=.bl true) λ_ _ _=>False)
   (hCX:∀(w:World) (H:Hp) (s:L5) (e:K') (s':L5),CX w [] H s (λ_ _ _=>False) e s'->False) :
   PySem.W.WalkO q loose XP YP l.row.toRowW d [] (λf vs=>PySem.call f vs):=by
 refine Att.attach_call hn hdf λw s₀ s₁ mg mb fa o pm cd doc a vs ns G Y ho hd hcd hmg hobj hints hlen hg=>?_;have KX:=hY w _ Y;let#[fd,hb,hF]:=F w mg fa _ KX G.T.g hmg;exact GS KX G.T.g G.T.b G.T.builtins G.T.nolimit hg hobj hints (Hu hlen hn2) hr hF hb (λH hO hS=>hsp w H a ns hlen hO hS) λH e s'=>hCX w H s₁ e s'
def walk_ofK {l:PySem.W.OpenLaw} {n k:Nat} {q:Program} {loose:List Str} {XP:(Str->Hl K')->Heap->Prop} {YP:World->Heap->Prop} {d:DefRec} {K:Params->L7} {CX:eF} {sp:L7->Sp} 
   (hn:l.most=⇑n) (hn2:n<=sizeLine) (hdf:d.params.defaults=[]) (hr:Room k callerA)
   (hY:∀(w:World) (h:Heap),YP w h->(K w.params).In h)
   (F:∀(w:World) (mg:Str->Hl K') (fa:L6) (h:Heap),(K w.params).In h->h.Ns mainGlobals mg->mg d.name=⇑↥fa ->
     ∃fd:FuncData,(∀(s:L5) (u:K'),BindsTo s fd #[[u],[]] [(x,u)]) /\
       ∀base:Heap,(K w.params).In base->base.Ns mainGlobals mg->FnOk l.prog w (K w.params) mg base CX k fa fd [x] (sp (K w.params)))
   (hsp:∀(K:L7) (H:Hp) (a:L6) (ns:List Int),ns.length<=n->oK H->aE K H a (ns.map V.int)->sp K [↥a] H (λv _=>v=.bl true) λ_ _ _=>False)
   (hCX:∀(H:Hp) (s:L5) (e:K') (s':L5),CX [] H s (λ_ _ _=>False) e s'->False) :
   PySem.W.WalkO q loose XP YP l.row.toRowW d [] (λf vs=>PySem.call f vs) :=
 Et (K:=K) (CX:=λ_=>CX) (sp:=λw=>sp (K w.params)) hn hn2 hdf hr hY F (λw H a ns h1 h2 h3=>hsp (K w.params) H a ns h1 h2 h3) λ_ H s e s'=>hCX H s e s'
abbrev cC (s:Stmt) (j:Nat):Stmt:=match s with
 | .ClassDef _ _ _ body _ _ _ _ _ _ _=>body.getD j (.Pass #[(0),(0),(0),(0)])
 | _=>.Pass #[(0),(0),(0),(0)]
abbrev dB (s:Stmt):Arguments:=match s with
 | .FunctionDef _ a _ _ _ _ _ _ _ _=>a
 | _=>{ posonlyargs:=[],args:=[],vararg:=none,kwonlyargs:=[],kw_defaults:=[],kwarg:=none,defaults:=[] }
abbrev aP (s:Stmt):List Stmt:=match s with
 | .FunctionDef _ _ b _ _ _ _ _ _ _=>b
 | _=>[]
abbrev aS (s:Stmt):Scope:=match s with
 | .FunctionDef _ _ _ _ _ _ sc _ _ _=>sc
 | _=>{ kind:=.function,names:=[],isGenerator:=false,isCoroutine:=false }
noncomputable abbrev CX0:eF:=λ_ _ _ _ _ _=>False
noncomputable abbrev E0:XK:=λ_ _ _=>False
def bR {X:Cx}:fh CX0 X E0:=λ_ _ _ _ _ _ _ h=>h.elim
structure Fun (K:W.Frag) (x qual:Str) (st:Stmt) (f:Addr) (fd:FuncData):Prop where
 ex:∃(oc:Value) (od:Option Addr) (kV doc pm:Value) (an:Option Addr) (cdv ct:Value) (osl:Array (Option Value)),
   fd=PySem.W.fnOf x qual (dB st) (aP st) (aS st) .none kV doc pm an cdv ct/\K.lookup f=⇑#[oc,od,.func fd,osl]/\PySem.W.codeIn K cdv qual=true
 kp:PySem.W.keepIn K ↥f=true
variable {qual:Str}
section
variable {P:Program} {w:World} {K:L7} {mg:Str->Hl K'} {base:Heap}
def Fun.ok {st:Stmt} {f:L6} {fd:FuncData} {N ps:List Str} {k:Nat} {sp:Sp} (F:Fun K x qual st f fd) (S:FnScope N ps (aS st)) (len:∀vs H Q E,sp vs H Q E->vs.length=ps.length)
   (hbody:∀(cdv:K') (A:Around) (outer:List Env) (s:L5) (H:Hp) (vs:List V) (Q:VK) (E:XK),Room k (A.deeper (envOfC qual (aS st) s.heap.objs.size f cdv))->sp vs H Q E ->
     ∃t,aO (cY CX0 P w K mg base N qual (aS st) f cdv A outer s H E).nox (aP st) t/\t { nx:=λ_ H'=>Q .non H',rt:=Q } (eR N vs) H):FnOk P w K mg base CX0 (k+1) f fd ps sp:=by
 let#[oc,od,kV,doc,pm,an,cdv,ct,osl,rfl,lk,hcd]:=F.ex;refine uw lk hcd S len λA outer s H vs Q E hr hsp=>?_;let#[t,h,q]:=hbody cdv A outer s H vs Q E hr hsp;show#[t,h.nox,q]
def Fun.binds {st:Stmt} {f:L6} {fd:FuncData} {ps:List Str} (F:Fun K x qual st f fd)
   (h:∀(kV doc pm:K') (an:Hl L6) (cdv ct:K') (us:List K'),us.length=ps.length->bindArgs (PySem.W.fnOf x qual (dB st) (aP st) (aS st) .none kV doc pm an cdv ct) #[us,[]]=pure (ps.zip us)):dC K fd ps []:=by
 let#[oc,od,kV,doc,pm,an,cdv,ct,osl,rfl,lk,hcd]:=F.ex;exact .all (h kV doc pm an cdv ct)
def gn {st:Stmt} {f:L6} {oc:K'} {od an:Hl L6} {osl:Array (Hl K')} {kV doc pm cdv ct:K'} (l:K.lookup f=⇑#[oc,od,.func (PySem.W.fnOf x qual (dB st) (aP st) (aS st) .none kV doc pm an cdv ct),osl])
   (c:PySem.W.codeIn K cdv qual=true) (k:PySem.W.keepIn K ↥f=true):Fun K x qual st f (PySem.W.fnOf x qual (dB st) (aP st) (aS st) .none kV doc pm an cdv ct):=#[#[oc,od,kV,doc,pm,an,cdv,ct,osl,rfl,l,c],k]
end
def vU {n:Nat} (h:n<=1000):n<sizeLine:=J9 h #[]
section
variable {X:Cx}
def pv (i:Nat) {pos:Pos} (hN:X.N[i]?=⇑x:=by rfl) (hv:jp X.env.scope x:=by first|exact Or.inl rfl|exact Or.inr 0x4|exact Or.inr (Or.inr rfl)) (hd:(x==("__debug__":Str))=false:=by decide)
   (hcd:(x==("__classdict__":Str))=false:=by decide):PE X (.Name x pos) (sy i):=AU hN hv hd hcd
end
def eg {A B:Prop} (h:B):if false=true then A else B:=by rw[HX Ho];exact h
def jq {A B:Prop} (h:A):if true=true then A else B:=by rw[He rfl];exact h
def qX {c A B:Prop} [Decidable c] (h1:c->A) (h2:¬ c->B):if c then A else B:=by
 by_cases h:c
 . rw[He h];exact h1 h
 . rw[HX h];exact h2 h
abbrev aB (H H':Hp):Prop:=∀b o,H b=⇑o->H' b=⇑o
def aB.refl (H:Hp):aB H H:=λ_ _ h=>h
def aB.trans {H H1 H2:Hp} (a:aB H H1) (b:aB H1 H2):aB H H2:=λc o h=>b c o (a c o h)
def aB.free {H H':Hp} (e:aB H H') {l:L6} (h:H' l=Option.none):H l=Option.none:=by
 cases q:H l with
 | none=>rfl
 | some o =>
   rw[e l o q] at h;cases h
def aB.seq {K:L7} {H H':Hp} {a:L6} {xs:List V} (e:aB H H') (h:aE K H a xs):aE K H' a xs:=by
 rcases h with(h|⟨o,h⟩)|h
 . exact .inl (.inl (e _ _ h))
 . exact .inl (.inr #[o,e _ _ h])
 . exact .inr h
end L2
set_option maxHeartbeats 4000000
namespace L2
open PySem PySem.Spec PyProof.Rows
abbrev df:List (Str×NameKind)->List (Str×L6)->List (Str×L6)->List (Str×L6)
 | [],_,acc=>acc
 | (n,k)::r,cells,acc=>if k==.free then df r cells ((n,(cells.lookup n).getD 0)::acc) else df r cells acc
def sv {env:Env}:∀(names:List (Str×NameKind)) (acc:List (Str×L6)),(∀y∈names,y.2=.free->∃c,env.cells.lookup y.1=⇑c) ->
   (forIn names acc λx r=>(match x with|(name,kind)=>if(kind==NameKind.free)=true then do let a <- cellOf env name; pure (ForInStep.yield ((name,a)::r)) else pure (ForInStep.yield r):Sem (ForInStep (List (Str×L6)))))=(pure (df names env.cells acc):Sem (List (Str×L6)))
 | [],acc,_=>rfl
 | (n,k)::r,acc,h=>by
   have ih:=λacc=>sv (env:=env) r acc λy hy=>h y (Hv _ hy);rw[KE];unfold df;cases hk:(k==NameKind.free) with
   | true =>
     let#[c,hc]:=h (n,k) Hj ↑hk;have hc:env.cells.lookup n=⇑c:=hc;have e:cellOf env n=pure c:=by unfold cellOf; rw[hc]
     simp only[hk,if_true,e,pure_bind,hc,Option.getD_some];exact ih _
   | false =>
     simp only[hk,JA,if_false,pure_bind];exact ih _
variable {scope:Scope}
def Ei {env:Env} (h:∀y∈scope.names,y.2=.free->∃c,env.cells.lookup y.1=⇑c):closureFor scope env=pure (df scope.names env.cells []):=by
 have e:=sv (env:=env) scope.names [] h;unfold closureFor
 first
   | (rw[e]; rfl)
   | (simp only[e]; rfl)
   | exact(Hr (λt=>t >>= λr=>pure r) e)
def pC {cells:List (Str×L6)}:∀(names:List (Str×NameKind)) (acc:List (Str×L6)),(∀y∈names,y.2=.free->∃c,cells.lookup y.1=⇑c)->(∀x c,acc.lookup x=⇑c->cells.lookup x=⇑c) ->
   ∀x c,(df names cells acc).lookup x=⇑c->cells.lookup x=⇑c
 | [],acc,_,h2=>h2
 | (n,k)::r,acc,h,h2=>by
   unfold df;cases hk:(k==NameKind.free) with
   | true =>
     rw[He rfl];refine pC r _ (λy hy=>h y (Hv _ hy)) λx c e=>?_;let#[c',hc]:=h (n,k) Hj ↑hk;have hc:cells.lookup n=⇑c':=hc;rw[J6] at e;cases hx:x==n with
     | true =>
       have hx':x=n:=↑hx
       rw[hx] at e;rw[hx',hc];simpa [hc] using e
     | false =>
       rw[hx] at e;exact h2 x c e
   | false =>
     rw[HX 0x8];exact pC r _ (λy hy=>h y (Hv _ hy)) h2
def qe {cells:List (Str×L6)} {x:Str}:∀(names:List (Str×NameKind)) (acc:List (Str×L6)),(acc.lookup x).isSome=true->((df names cells acc).lookup x).isSome=true
 | [],_,h=>h
 | (n,k)::r,acc,h=>by
   unfold df;split
   . refine qe r _ ?_;rw[J6];cases x==n <;> simp [h]
   . exact qe r _ h
def pw {cells:List (Str×L6)} {x:Str}:∀(names:List (Str×NameKind)) (acc:List (Str×L6)),(x,NameKind.free)∈names->((df names cells acc).lookup x).isSome=true
 | (n,k)::r,acc,h=>by
   unfold df;rcases Hh.mp h with e|e
   . cases e;rw[He 0x0];exact qe r _ (by rw[J6]; simp)
   . split
     . exact pw r _ e
     . exact pw r _ e
abbrev d6 (X:Cx) (N':List Str) (scope:Scope) (C:L6) (s:L5) (H:Hp) (fp:List L6):Cx :=
 { X with N:=N',s₀:=s,H₀:=H,env:=compEnvC scope (df scope.names X.env.cells []) C X.env,outer:=X.stack,stack:=X.stack,ex:=fp,fn:=λ_=>false,pn:=[],xe:=λ_ _=>False }
abbrev cB (js:List (Hl Nat)) (σ:St):St:=js.map λo=>o.bind λj=>(σ[j]?).join
abbrev lC (scope osc:Scope) (N' N:List Str) (js:List (Hl Nat)):Bool :=
 (scope.kind==.function)&&(scope.names.all λy=>y.2 != .cell&&(if y.2==.local then scope.names.lookup y.1==some .local else true) &&
   (if y.2==.free then osc.names.lookup y.1==some .cell || osc.names.lookup y.1==some .free else true)) &&
 js.length==N'.length&&((js.zip N').all λq=>match q.1 with
   | none=>true
   | some j=>N[j]?==⇑q.2&&(osc.names.lookup q.2==some .cell || osc.names.lookup q.2==some .free)&&scope.names.lookup q.2==some .free)
structure CompOk (scope osc:Scope) (N' N:List Str) (js:List (Option Nat)):Prop where
 kind:scope.kind=.function
 nocell:∀y∈scope.names,y.2≠.cell
 names:∀y∈scope.names,y.2=.local->scope.names.lookup y.1=some .local
 free:∀y∈scope.names,y.2=.free->osc.names.lookup y.1=some .cell\/osc.names.lookup y.1=some .free
 len:js.length=N'.length
 slots:∀(i j:Nat) (x:Str),js[i]?=⇑⇑j->N'[i]?=⇑x->N[j]?=⇑x/\(osc.names.lookup x=some .cell\/osc.names.lookup x=some .free)/\scope.names.lookup x=some .free
variable {N':List Str} {js:List (Hl Nat)}
def DX {osc:Scope}{N:List Str}(h:lC scope osc N' N js=true):CompOk scope osc N' N js:=by
 unfold lC at h;rw[IN,IN,IN,K9,K9] at h;obtain⟨⟨⟨h1,h2⟩,h3⟩,h4⟩:=h;show#[by cases hk:scope.kind <;> first|rfl|(rw[hk] at h1; cases h1),λy hy e=>?_,λy hy e=>?_,λy hy e=>?_,by simpa using h3,λi j x e1 e2=>?_]
 . have q:=h2 y hy;rw[e] at q;simp at q
 . have q:=h2 y hy;rw[IN,IN] at q;have q2:=q.1.2;rw[e] at q2;simpa using q2
 . have q:=h2 y hy;rw[IN,IN] at q;have q2:=q.2;rw[e] at q2;simpa using q2
 . have hm:(⇑j,x)∈js.zip N':=by refine IA (i:=i) ?_;rw[Jt];show#[e1,e2]
   have q:=h4 _ hm;simp only[IN,Bool.or_eq_true,Kg] at q;show#[q.1.1,q.1.2,q.2]
def uD {env:Env}:∀(names:List (Str×NameKind)) (x:Str),names.lookup x=some .free ->
   ((names.map λ(n,k)=>if(k==NameKind.free&&env.scope.kind==.function&&env.kindOf n==some .cell) then(n,NameKind.cell) else(n,k)).lookup x=some .cell \/
     (names.map λ(n,k)=>if(k==NameKind.free&&env.scope.kind==.function&&env.kindOf n==some .cell) then(n,NameKind.cell) else(n,k)).lookup x=some .free)
 | [],x,h=>by simp at h
 | (n,k)::r,x,h=>by
   have ih:=uD (env:=env) r x;rw[IF];rw[J6] at h;by_cases hb:(k==NameKind.free&&env.scope.kind==.function&&env.kindOf n==some .cell)=true
   . have e1:(if(k==NameKind.free&&env.scope.kind==.function&&env.kindOf n==some .cell)=true then(n,NameKind.cell) else(n,k))=(n,NameKind.cell):=He hb;simp only[e1,J6];cases hx:x==n with
     | true=>exact .inl rfl
     | false =>
       rw[hx] at h;exact ih h
   . have e1:(if(k==NameKind.free&&env.scope.kind==.function&&env.kindOf n==some .cell)=true then(n,NameKind.cell) else(n,k))=(n,k):=HX hb;simp only[e1,J6];cases hx:x==n with
     | true =>
       rw[hx] at h;exact .inr h
     | false =>
       rw[hx] at h;exact ih h
def vY {scope:Scope} {env:Env}:∀(names:List (Str×NameKind)) (x:Str),(∀y∈names,y.2≠.cell) ->
   ((names.map λ(n,k)=>if(k==NameKind.free&&env.scope.kind==.function&&env.kindOf n==some .cell) then(n,NameKind.cell) else(n,k)).lookup x=some .cell \/
     (names.map λ(n,k)=>if(k==NameKind.free&&env.scope.kind==.function&&env.kindOf n==some .cell) then(n,NameKind.cell) else(n,k)).lookup x=some .free)->(x,NameKind.free)∈names
 | [],x,_,h=>by simp at h
 | (n,k)::r,x,hc,h=>by
   have ih:=vY (scope:=scope) (env:=env) r x λy hy=>hc y (Hv _ hy);rw[IF] at h;by_cases hb:(k==NameKind.free&&env.scope.kind==.function&&env.kindOf n==some .cell)=true
   . have hkf:k=.free:=by rw[IN,IN] at hb;simpa using hb.1.1
     have e1:(if(k==NameKind.free&&env.scope.kind==.function&&env.kindOf n==some .cell)=true then(n,NameKind.cell) else(n,k))=(n,NameKind.cell):=He hb;simp only[e1,J6] at h;cases hx:x==n with
     | true =>
       have hx':x=n:=↑hx
       rw[hx',hkf];exact Hj
     | false =>
       rw[hx] at h;exact Hv _ (ih h)
   . have e1:(if(k==NameKind.free&&env.scope.kind==.function&&env.kindOf n==some .cell)=true then(n,NameKind.cell) else(n,k))=(n,k):=HX hb;simp only[e1,J6] at h;cases hx:x==n with
     | true =>
       have hx':x=n:=↑hx
       rw[hx] at h;rcases h with h|h
       . exact absurd (Option.some.inj h) (hc (n,k) Hj)
       . have hkf:k=.free:=Option.some.inj h;rw[hx',hkf];exact Hj
     | false =>
       rw[hx] at h;exact Hv _ (ih h)
variable {H:Hp}
def Un.sameBut {fs ex:List L6} {H':Hp}{h h1 h2:Heap} {C:L6} (u:Un fs ex H H' h h1) (hs:Heap.SameBut C h1 h2) (hC:h.objs.size<=C):Un fs ex H H' h h2:=by
 have ne:∀b o,h.get? b=⇑o->b≠C:=λb o e=>IG (IB (Hm e) hC);show#[λb o e n hb hx=>(hs.2 b (ne b o e))\(u.keep b o e n hb hx),λb o e n hb hx=>?_,u.free,λb o e hx=>?_,u.tups,u.frzs,u.tbls]
 . let#[sl,q]:=u.slot b o e n hb hx;show#[sl,(hs.2 b (ne b o e))\q]
 . let#[o',q]:=u.there b o e hx;show#[o',(hs.2 b (ne b o e))\q]
def jK {α:Type} {t:Sem α} {Q Q':α->L5->Prop} {M:Model} {A:Around} {E:K'->L5->Prop} {s:L5} (h:wpAny M A t Q (λ_ _=>False) s) (hQ:∀a s,Q a s->Q' a s):wpAny M A t Q' E s:=Il h hQ λ_ _ f=>f.elim
variable {elt target iter:Expr} {ifs:List Expr} {pos:Pos}
def zR {prog:Program} {w:World} {A:Around} {R:Result->L5->Prop} {s:L5} {it acc:K'} {env:Env} (I:Nat->L5->Prop)
   (turn:∀n s,I n s->wpAny 0x6 A (pyNext it) (λr s₁=>match r with
     | none=>R (.ok .next) s₁
     | some v=>wpAny 0x6 A (letOwnedTupleGo target it v) (λ_ s₂=>wpAny 0x6 A (assign target env v) (λ_ s₃ =>
         wpAny 0x6 A (forIn ifs true λc r=>if r=true then do let ok <- isTrue c env (eval c env); pure (ForInStep.yield ok) else pure (ForInStep.yield r)) (λok s₄ =>
           if ok=true then wpAny 0x6 A (eval elt env) (λx s₅ =>
             wpAny 0x6 A (call (.builtin "list.append") [acc,x]) (λ_ s₆=>∃m,m<n/\I m s₆) (λ_ _=>False) s₅) (λ_ _=>False) s₄
           else ∃m,m<n/\I m s₄) (λ_ _=>False) s₃) (λ_ _=>False) s₂) (λ_ _=>False) s₁) (λ_ _=>False) s)
   (n:Nat) (h:I n s):codeAny 0x6 A (.compLoop (.ListComp elt [#[target,iter,ifs,(0)]] scope pos) 0 it acc env) R s:=by
 refine codeAny_loop rfl I (λn s hI=>?_) n h;show wpAny _ A ((compTurn (.ListComp elt [#[target,iter,ifs,(0)]] scope pos) 0 it acc env).onRaise (λx=>do noteFrame x env; theTreesLotGoes x)) _ _ s;refine wpAny_noted ?_;rw[compTurn_list];refine HR (Jr (HR (jK (turn n s hI) λr s₁ h₁=>?_)));cases r with
 | none=>exact Ha h₁
 | some v =>
   refine HR (jK h₁ λ_ s₂ h₂=>HR (jK h₂ λ_ s₃ h₃=>HR (jK h₃ λok s₄ h₄=>?_)));cases ok with
   | false=>exact Ha #[rfl,h₄]
   | true =>
     exact HR (HR (jK h₄ λx s₅ h₅=>HR (jK h₅ λ_ s₆ h₆=>Ha (Ha #[rfl,h₆]))))
abbrev kH (X:Cx) (ifs:List Expr) (t:TT):Prop :=
 ∀(pins:List (L6×Obj)) (s:L5) (σ:St) (H:Hp) (Q:Bool->Hp->Prop),Inv X pins σ H s->t σ H Q ->
   wpAny 0x3 X.A (forIn ifs true λc r=>if r=true then do let ok <- isTrue c X.env (eval c X.env); pure (ForInStep.yield ok) else pure (ForInStep.yield r)) (TP X pins σ Q) X.xe s
abbrev FQ:TT:=λ_ H Q=>Q true H
variable {X:Cx}
def cr :kH X [] FQ:=λ_ _ _ H _ I h=>wpAny_tests_nil #[H,I,h]
def GY {c:Expr} {t:TT} (h:PT X c t):kH X [c] t:=λpins s σ H Q I hq=>wpAny_tests_one (h pins s σ H Q I hq)
abbrev lA (js:List (Hl Nat)) (g:TG):Prop:=∀(x:V) (σ:St) (H:Hp) (Q:St->Hp->Prop),σ.length=js.length->g x σ H Q->g x σ H λσ' H'=>Q σ' H'/\σ'.length=js.length/\∀(i j:Nat),js[i]?=⇑⇑j->σ'[i]?=σ[i]?
abbrev nZ (js:List (Hl Nat)) (g:eV):Prop:=∀(x:List V) (σ:St) (H:Hp) (Q:St->Hp->Prop),σ.length=js.length->g x σ H Q->∀Q':St->Hp->Prop,(∀σ' H',Q σ' H'->σ'.length=js.length->(∀(i j:Nat),js[i]?=⇑⇑j->σ'[i]?=σ[i]?)->Q' σ' H')->g x σ H Q'
def dH {i:Nat} (h:js[i]?=⇑none:=by rfl):lA js (fw i):=λx σ H Q hl q=>#[q,by rw[Je]; exact hl,λk j e=>by rw[JB];intro z;subst z;rw[h] at e;cases e]
def qo :nZ js wj:=λx σ H Q hl z94_ Q' k=>by let#[e,q]:=z94_; show#[e,k _ _ q hl λ_ _ _=>rfl]
def io {i:Nat} {u:eV} (hu:nZ js u) (h:js[i]?=⇑none:=by rfl):nZ js (sQ (fw i) u):=λx σ H Q hl ⟨v,r,e,q⟩ Q' k=>#[v,r,e,by
 have hl':(σ.set i ⇑v).length=js.length:=by rw[Je]; exact hl
 exact hu r (σ.set i ⇑v) H Q hl' q _ λσ' H' z1 z2 z3=>k σ' H' z1 z2 λn j e=>(z3 n j e)\(by rw[JB];intro z;subst z;rw[h] at e;cases e)]
def og {K:L7} {n:Nat} {t:eV} (h:nZ js t):lA js (jr K n t):=λx σ H Q hl z96_=>by let#[a,xs,e,sq,l,q]:=z96_; show#[a,xs,e,sq,l,h xs σ H Q hl q _ λσ' H' z1 z2 z3=>#[z1,z2,z3]]
abbrev gZ (J:It) (g:TG) (tif:TT) (te:TE) (js:List (Hl Nat)) (σ:St) (Q:VK) (p:L6) (H1:Hp):Prop :=
 ∃W:Nat->Nat->List V->Hp->Prop,(∃m,W 0 m [] (upd H1 p (.lst [])))/\∀i m acc H2,W i m acc H2->H2 p=⇑(.lst acc) /\
   ((J.stop i H2/\Q ↥p H2)\/(J.go i H2/\acc.length<sizeLine/\∃N:List V->Hp->Prop,(∀acc' H',N acc' H'->∃m',m'<m/\W (i+1) m' acc' H') /\
     ∀x H',J.yld i H2 x H'->g x (cB js σ) H' λσ2 H3=>tif σ2 H3 λc H4 =>
       if c=true then te σ2 H4 λy H5=>H5 p=⇑(.lst acc)/\N (acc++[y]) (upd H5 p (.lst (acc++[y]))) else N acc H4))
abbrev pz (wi:TI) (g:TG) (tif:TT) (te:TE) (js:List (Hl Nat)):TE:=λσ H Q=>wi σ H λJ H1=>∀p,H1 p=none->gZ J g tif te js σ Q p H1
variable {wi:TI} {tif:TT} {te:TE}
def si {use:Hl (K'->Sem Unit)} {Q':K'->L5->Prop} {Q:VK} {pins:List (L6×Obj)} {s:L5} {σ:St} {g:TG} (hok:lC scope X.env.scope N' X.N js=true) (hc:X.calm=true)
   (hi:PI X target iter wi) (ho:lA js g) (hg:∀C s H fp,PG (d6 X N' scope C s H fp) target g) (hif:∀C s H fp,kH (d6 X N' scope C s H fp) ifs tif) (he:∀C s H fp,PE (d6 X N' scope C s H fp) elt te)
   (hs:∀x,foldedSetIterable iter X.env x=pure x) (I:Inv X pins σ H s) (h:pz wi g tif te js σ H Q)
   (hfin:∀(s2:L5) (H2:Hp) (fp:List L6) (C:L6),Inv X pins σ H2 s2->(∀b∈fp,dq X pins H2 b)->s2.heap.objs.size<=C->∀(σ':St) (H':Hp) (s':L5),Inv (d6 X N' scope C s2 H2 fp) [] σ' H' s'->Q ↥s2.heap.objs.size H' ->
     compPost 0x3 X.A X.xe use Q' ↥s2.heap.objs.size C (.ok .next) s') :
   wpAny 0x3 X.A (comprehension (.ListComp elt [#[target,iter,ifs,(0)]] scope pos) scope X.env (firstIterPos [#[target,iter,ifs,(0)]] pos) (newList []) false (eval iter X.env) use) Q' X.xe s:=by
 have O:=DX hok;have hfr:∀y∈scope.names,y.2=.free->∃c,X.env.cells.lookup y.1=⇑c:=λy hy e=>I.ok.has y.1 (O.free y hy e);refine wpAny_comprehension_free (use:=use) rfl hs (Ei hfr) O.kind O.names (aQ (hi pins s σ H _ I h) λv s1 h1=>aQ h1 λitv s2 h2=>?_);let#[it,fp,tn,J,H2,e,I2,T,gb,f2,hq]:=h2;subst e;have hf0:H2 s2.heap.objs.size=none:=I2.hok.fresh (HY _);obtain⟨W,⟨m0,w0⟩,turn⟩:=hq _ hf0;refine J1 (wpAny_newFunctionEnv O.nocell (by intro y hy; simp at hy) (λh₁ hns₁ hsb₁=>?_) O.kind);dsimp only at hns₁ hsb₁ ⊢;generalize hH2:s2.heap.push { cls:=.type "list",dict:=none,data:=.seq ([]:List K').toArray }=B at hns₁ hsb₁ ⊢;have hC:B.objs.size=s2.heap.objs.size+1:=by rw[<- hH2,Iy]
 have hCle:s2.heap.objs.size<=B.objs.size:=by rw[hC]; exact Ja _
 have old:∀b o,s2.heap.get? b=⇑o->h₁.get? b=⇑o:=λb o e=>hsb₁.extBut b o (by rw[hC]; exact IG (Nat.lt_succ_of_lt (Hm e))) (HW _ (hH2 ▸ HW _ e));have hDC:s2.heap.objs.size≠B.objs.size:=by rw[hC]; exact IG (Iw _)
 have hacc:h₁.get? s2.heap.objs.size=some { cls:=.type "list",dict:=none,data:=.seq ([]:List K').toArray }:=hsb₁.extBut _ _ hDC (HW _ (hH2 ▸ Hs _ rfl));have fpO:∀b∈fp,b<s2.heap.objs.size:=λb hb=>by let#[o,e,_]:=T.obj 0 _ gb b hb;exact Hm e
 have sub:∀x c,(df scope.names X.env.cells []).lookup x=⇑c->X.env.cells.lookup x=⇑c:=pC scope.names [] hfr (λx c e=>by cases e);have hasC:∀x,((relabel scope X.env).names.lookup x=some .cell\/(relabel scope X.env).names.lookup x=some .free)->∃c,(df scope.names X.env.cells []).lookup x=⇑c:=λx hx =>
   Jx.mp (pw scope.names [] (vY (scope:=scope) (env:=X.env) scope.names x O.nocell hx))
 -- the block's context at its begin
 have IY:∀t,Inv (d6 X N' scope B.objs.size s2 H2 fp) [] (cB js σ) (upd H2 s2.heap.objs.size (.lst [])) { s2 with heap:=h₁,toks:=t }:=by
   intro t;show#[#[I2.ok.mod,O.kind,I2.ok.glob,I2.ok.blt,hCle,λx y c h1 h2=>I2.ok.inj x y c (sub x c h1) (sub y c h2),λx hx=>hasC x hx,λx c h=>(by cases h),I2.ok.hd,I2.ok.frames,.inl rfl,λb hb=>#[IG (IB (fpO b hb) hCle),λx c e=>(f2 b hb).2.2.2.2.1 x c (sub x c e)],
     I2.bs,Hu I2.ok.bsz I2.sz,λb o e hb=>?_,λb hb z=>?_,I2.stack,I2.stkFree],rfl,I2.bare,Un.laid old (HY _) hf0,#[_,hns₁,λi x v e1 e2 e3=>?_],λx c e=>?_,?_,λx c e=>?_,λp hp=>absurd (show p∈([]:List (L6×Obj)) from hp) 0x8,?_,?_]
   . rcases (f2 b hb).2.2.2.1 with z|z
     . exact I2.ok.noex b o e z
     . exact absurd (IB (IB (Hm e) I2.ok.bsz) z) (Ia _)
   . rcases Hh.mp (I2.stkSub b z) with q|q
     . exact(f2 b hb).2.1 q
     . exact(f2 b hb).2.2.1 q
   . have e1:N'[i]?=⇑x:=e1;unfold cB at e2;rw[Hk] at e2;cases q:js[i]? with
     | none=>rw[q] at e2; cases e2
     | some o =>
       rw[q] at e2;cases o with
       | none=>cases e2
       | some j =>
         have e2:(σ[j]?).join=⇑v:=↑e2
         have e2':σ[j]?=⇑⇑v:=by
           cases z:σ[j]? with
           | none=>rw[z] at e2; cases e2
           | some a=>rw[z] at e2; cases a with
             | none=>cases e2
             | some a=>cases e2; rfl
         let#[hN,hk,hsf]:=O.slots i j x q e1;let#[m,hn,hl]:=I2.loc;let#[u,r,l]:=hl j x v hN e2' (.inr hk);show#[u,r,?_];have hkX:X.env.kindOf x=some .cell\/X.env.kindOf x=some .free:=hk;rcases l with⟨k,_⟩|⟨k,c,hc',hcell⟩
         . rcases hkX with z|z
           . rw[k] at z; cases z
           . rw[k] at z; cases z
         . have hky:(relabel scope X.env).names.lookup x=some .cell\/(relabel scope X.env).names.lookup x=some .free:=uD (env:=X.env) scope.names x hsf;let#[c2,hc2]:=hasC x hky;have:c2=c:=by have:=sub x c2 hc2;rw[hc'] at this;exact(Option.some.inj this).symm
           subst this;let#[ob,ho,hd]:=hcell;exact .inr #[hky,c2,hc2,ob,old _ _ ho,hd]
   . let#[v,ob,ho,hd]:=I2.cell x c (sub x c e);show#[v,ob,old _ _ ho,hd]
   . show upd H2 s2.heap.objs.size (.lst []) B.objs.size=none;rw[aM (Ne.symm hDC)];exact I2.hok.fresh hCle
   . let#[v,ob,ho,hd]:=I2.cell x c (sub x c e);rw[aM (IG (Hm ho))];exact I2.freeC x c (sub x c e)
   . exact I2.hok.laid old (HY _) #[Hw _,[],(0),.nil,hacc]
   . unfold cB;rw[HS];exact O.len
 have hcl:(cB js σ).length=js.length:=by unfold cB; rw[HS]
 have fin:∀{σ':St} {H':Hp} {s':L5},Inv (d6 X N' scope B.objs.size s2 H2 fp) [] σ' H' s'->Q ↥s2.heap.objs.size H'->compPost 0x3 X.A X.xe use Q' ↥s2.heap.objs.size B.objs.size (.ok .next) s' :=
   λ{σ' H' s'} J q=>hfin s2 H2 fp B.objs.size I2 f2 hCle σ' H' s' J q
 have loop:∀t,codeAny 0x3 X.A (.compLoop (.ListComp elt [⟨target,iter,ifs,0⟩] scope pos) 0 ↥it ↥s2.heap.objs.size (compEnvC scope (df scope.names X.env.cells []) B.objs.size X.env))
     (compPost 0x3 X.A X.xe use Q' ↥s2.heap.objs.size B.objs.size) { s2 with heap:=h₁,toks:=t }:=by
   intro t;have stat:∀{H':Hp},(∀b∈fp,H' b=none)->∀b∈fp,dq (d6 X N' scope B.objs.size s2 H2 fp) [] H' b:=λhn b hb =>
     #[hn b hb,IG (IB (fpO b hb) hCle),(IY t).ok.exfs b hb,.inl hb,λx c e=>((IY t).ok.exf b hb).2 x c e,λp hp=>absurd (show p∈([]:List (L6×Obj)) from hp) 0x8]
   refine zR (λn s'=>∃i acc H',Inv (d6 X N' scope B.objs.size s2 H2 fp) [] (cB js σ) H' s'/\tn i s'.heap/\(∀b∈fp,H' b=none)/\W i n acc H') ?_ m0
     #[(0),[],_,IY t,T.keep 0 _ _ gb (λb _ o e=>old b o e),λb hb=>by rw[aM (IG (fpO b hb))]; exact(f2 b hb).1,w0]
   rintro n s3 ⟨i,acc,H3,I3,st3,fr3,w3⟩;let#[hD,turn]:=turn i n acc H3 w3;rcases turn with⟨stop,qn⟩|⟨go,hlen,N,hN,step⟩
   . refine aQ (T.done (d6 X N' scope B.objs.size s2 H2 fp) rfl rfl rfl hc i [] s3 (cB js σ) H3 (λ_ _=>False) I3 (stat fr3) st3 stop) λr s4 z97_=>?_;let#[hr,I4]:=z97_;subst hr;exact fin I4 qn
   . refine aQ (T.item (d6 X N' scope B.objs.size s2 H2 fp) rfl rfl rfl hc i [] s3 (cB js σ) H3 (λ_ _=>False) I3 (stat fr3) st3 go) λr s4 z98_=>?_;let#[u,hr,h4]:=z98_;subst hr;refine aQ h4 λ_ s5 z99_=>?_;let#[x,H5,I5,r5,y5,st5,fr5]:=z99_;have I5':=I5.pinned (stat fr5) (T.obj _ _ st5);refine aQ (hg _ _ _ _ _ s5 (cB js σ) H5 x u _ I5' r5 (ho x (cB js σ) H5 _ hcl (step x H5 y5))) λ_ s6 z100_=>?_;let#[σ6,H6,I6,q6,hl6,hk6]:=z100_;refine aQ (hif _ _ _ _ _ s6 σ6 H6 _ I6 q6) λok s7 z101_=>?_;let#[H7,I7,q7]:=z101_;have again:∀{H8:Hp} {acc8:List V} {s8:L5},Inv (d6 X N' scope B.objs.size s2 H2 fp) ([]++kL fp s5.heap) σ6 H8 s8->N acc8 H8 ->
         ∃m,m<n/\∃i acc H',Inv (d6 X N' scope B.objs.size s2 H2 fp) [] (cB js σ) H' s8/\tn i s8.heap/\(∀b∈fp,H' b=none)/\W i m acc H':=by
       intro H8 acc8 s8 I8 n8;let#[m',hm,w8]:=hN acc8 H8 n8;show#[m',hm,i+1,acc8,H8,?_,T.keep _ _ _ st5 λb hb o e=>(I8.pin (b,o) (Hz _ (Hz _ (mi hb e)))).1,λb hb=>?_,w8]
       . refine Inv.weak I8.unpinned (by rw[hl6,hcl]) λk v e=>?_;have e':=e;unfold cB at e;rw[Hk] at e;cases q:js[k]? with
         | none=>rw[q] at e; cases e
         | some o =>
           cases o with
           | none=>rw[q] at e; cases e
           | some j=>rw[hk6 k j q]; exact e'
       . let#[o,e,d]:=T.obj _ _ st5 b hb;exact(I8.pin (b,o) (Hz _ (Hz _ (mi hb e)))).2.1
     cases ok with
     | false=>exact again I7 q7
     | true =>
       refine aQ (he _ _ _ _ _ s7 σ6 H7 _ I7 q7) λy s8 z102_=>?_;let#[yv,H8,I8,r8,hD8,q8]:=z102_;refine aQ (jD _ s8 σ6 H8 ↥s2.heap.objs.size [yv] ↥s2.heap.objs.size [y] (λ_ H9=>N (acc++[yv]) H9) I8 rfl (.cons r8 .nil) #[_,acc,yv,7,hD8,hlen,q8]) λ_ s9 z103_=>?_;let#[_,H9,I9,_,q9]:=z103_;exact again I9 q9
 exact codeAny_compStart_list (loop _) (T.self X.A 0 _ _ _ (T.keep 0 _ _ gb (λb _ o e=>old b o e)) (loop _))
def dN {g:TG} (hok:lC scope X.env.scope N' X.N js=true) (hc:X.calm=true)
   (hi:PI X target iter wi) (ho:lA js g) (hg:∀C s H fp,PG (d6 X N' scope C s H fp) target g) (hif:∀C s H fp,kH (d6 X N' scope C s H fp) ifs tif) (he:∀C s H fp,PE (d6 X N' scope C s H fp) elt te)
   (hs:∀x,foldedSetIterable iter X.env x=pure x:=by intro _; rfl):PE X (.ListComp elt [#[target,iter,ifs,(0)]] scope pos) (pz wi g tif te js):=by
 intro pins s σ H Q I h;rw[eval_ListComp];refine si (use:=none) hok hc hi ho hg hif he hs I h λs2 H2 fp C I2 f2 hCle σ' H' s' J q=>?_;let#[m,hn,_]:=J.loc;show#[m,hn,λh' hs'=>#[↥s2.heap.objs.size,H',?_,rfl,q]];refine I2.call' (s':={ s' with heap:=h' }) (ch:=fp) J.os (J.base.sameBut hs' hCle) (λb ob e=>?_) J.bare λb hb=>#[(f2 b hb).2.2.2.1,(f2 b hb).2.1,(f2 b hb).2.2.2.2.1,(f2 b hb).2.2.2.2.2]
 refine(J.hok b ob e).stay (λc w' hc q=>(hs'.2 c ?_)\q) (λ_ q=>q) λ_ _ q=>q;have hfree:H' C=none:=J.free;intro hcC;rw[hcC] at hc;rcases hc with z|z
 . rw[<- z,hfree] at e; cases e
 . rw[hfree] at z; cases z
def oH {i:Nat} {y:Str} {py spos:Pos}{g:TG} (hN:X.N.Nodup) (hi':X.N[i]?=⇑y) (hx:iz X.env.scope y)
   (hok:lC scope X.env.scope N' X.N js=true) (hc:X.calm=true)
   (hi:PI X target iter wi) (ho:lA js g) (hg:∀C s H fp,PG (d6 X N' scope C s H fp) target g) (hif:∀C s H fp,kH (d6 X N' scope C s H fp) ifs tif) (he:∀C s H fp,PE (d6 X N' scope C s H fp) elt te)
   (hsw:swapsWith (.ListComp elt [#[target,iter,ifs,(0)]] scope pos) ⇑(.Name y py) spos.line X.env=pure true)
   (hs:∀x,foldedSetIterable iter X.env x=pure x:=by intro _; rfl) (hf:X.fn y=true\/X.env.scope.names.lookup y=some .local:=by first|exact .inl rfl|exact .inr rfl|assumption) :
   PS X (.Assign [.Name y py] (.ListComp elt [#[target,iter,ifs,(0)]] scope pos) spos) (mV (pz wi g tif te js) (fw i)):=by
 intro pins s σ H D I h;rw[exec_Assign_Name_used _ _ _ _ hsw];refine HR (Jr (HR ?_));show wpAny _ X.A (do let _ <- comprehension (.ListComp elt [⟨target,iter,ifs,0⟩] scope pos) scope X.env _ (newList []) false (eval iter X.env) ⇑(assign (.Name y py) X.env)) _ _ s;refine HR (aQ (si (use:=⇑(assign (.Name y py) X.env)) (Q':=λ_ s'=>SP X pins D .next s') hok hc hi ho hg hif he hs I h λs2 H2 fp C I2 f2 hCle σ' H' s' J q=>?_) λ_ s' q=>?_)
 . let#[m,hn,_]:=J.loc;have I3:Inv X pins σ H' s':=I2.call' (ch:=fp) J.os J.base J.hok J.bare λb hb=>#[(f2 b hb).2.2.2.1,(f2 b hb).2.1,(f2 b hb).2.2.2.2.1,(f2 b hb).2.2.2.2.2]
   have hCL:C≠X.env.locals:=λz=>absurd (IB I2.lt hCle) (by rw[z]; exact Ia _);have hCc:∀x c,X.env.cells.lookup x=⇑c->c≠C:=λx c e z=>by let#[v,ob,ho,_]:=I2.cell x c e;exact absurd (IB (Hm ho) hCle) (by rw[z]; exact Ia _)
   have hCp:∀p∈X.pn++pins,p.1≠C:=λp hp z=>by have e:=(I2.pin p hp).1;exact absurd (IB (Hm e) hCle) (by rw[z]; exact Ia _)
   show wpAny _ X.A (assign (.Name y py) X.env ↥s2.heap.objs.size) _ _ s';refine wpAny_assign_Name (tQ I3 hN hi' hx (v:=↥s2.heap.objs.size) rfl (λs'' I4 z104_=>?_) hf);let#[a,hsb,ha]:=z104_;have hna:C≠a:=by
     rcases ha with z|z
     . rw[z]; exact hCL
     . exact(hCc _ _ z).symm
   show#[m,hn.sameBut hsb hna,λh' hs'=>#[_,H',?_,q]];exact I4.turned (t':=s''.toks) (h':=h') (it:=C) (λb o hb e=>(hs'.2 b hb)\e) J.free hCL (.inr (Hu I2.sz hCle)) hCc hCp
 . exact Ha (Ha q)
variable {p:L6}
section
variable {g:TG} {tif:TT} {te:TE} {js:List (Hl Nat)} {σ:St} {H:Hp} {Q:VK}
abbrev qR (g:TG) (tif:TT) (te:TE) (σ:St) (p:L6) (acc:List V) (N:List V->Hp->Prop) (x:V) (H:Hp):Prop :=
 g x σ H λσ2 H3=>tif σ2 H3 λc H4=>if c=true then te σ2 H4 λy H5=>H5 p=⇑(.lst acc)/\N (acc++[y]) (upd H5 p (.lst (acc++[y]))) else N acc H4
def mx {lo:Int} {n:Nat} (hn:n<=1000000) (Pv:Nat->List V->Hp->Prop) (h0:Pv 0 [] (upd H p (.lst [])))
   (hl:∀i acc H2,i<=n->Pv i acc H2->H2 p=⇑(.lst acc)/\acc.length<=i)
   (hs:∀i acc H2,i<n->Pv i acc H2->qR g tif te (cB js σ) p acc (Pv (i+1)) (.int (lo+i)) H2) (hd:∀acc H2,Pv n acc H2->Q ↥p H2) :
   gZ (gE lo n) g tif te js σ Q p H:=by
 show#[λi m acc H=>m=n - i/\i<=n/\Pv i acc H,#[n,by simp,Hw _,h0],?_];rintro i m acc H2 ⟨rfl,hi,q⟩;let#[q1,q2]:=hl i acc H2 hi q;show#[q1,?_];by_cases hlt:i<n
 . refine .inr #[hlt,?_,Pv (i+1),λacc' H' p'=>#[n - (i+1),∅,rfl,hlt,p'],λx H' y=>?_]
   . have:(1000000:Nat)<sizeLine:=by decide
     lia
   . let#[e,y]:=y;subst e y;exact hs i acc _ hlt q
 . have e:i=n:=by lia
   subst e;exact .inl #[HY _,hd acc H2 q]
def qK {K:L7} {a:L6} {xs:List V} (hn:xs.length<=1000000) (Pv:Nat->List V->Hp->Prop) (h0:Pv 0 [] (upd H p (.lst [])))
   (hl:∀i acc H2,i<=xs.length->Pv i acc H2->H2 p=⇑(.lst acc)/\acc.length<=i/\aE K H2 a xs)
   (hs:∀i x acc H2,xs[i]?=⇑x->Pv i acc H2->qR g tif te (cB js σ) p acc (Pv (i+1)) x H2) (hd:∀acc H2,Pv xs.length acc H2->Q ↥p H2) :
   gZ (iI K a) g tif te js σ Q p H:=by
 show#[λi m acc H=>m=xs.length - i/\i<=xs.length/\Pv i acc H,#[xs.length,by simp,Hw _,h0],?_];rintro i m acc H2 ⟨rfl,hi,q⟩;let#[q1,q2,q3]:=hl i acc H2 hi q;show#[q1,?_];by_cases hlt:i<xs.length
 . refine .inr #[#[xs,xs[i],q3,by simp [hlt]],?_,Pv (i+1),λacc' H' p'=>#[xs.length - (i+1),∅,rfl,hlt,p'],λx H' y=>?_]
   . have:(1000000:Nat)<sizeLine:=by decide
     lia
   . let#[e,y]:=y;subst e;exact hs i x acc _ (y xs q3) q
 . have e:i=xs.length:=by lia
   subst e;exact .inl #[#[xs,q3,HY _],hd acc H2 q]
def oU {K:L7} {a:L6} {xs:List V} (hn:xs.length<=1000000) (Pv:Nat->List V->Hp->Prop) (h0:Pv 0 [] (upd H p (.lst [])))
   (hl:∀i acc H2,i<=xs.length->Pv i acc H2->H2 p=⇑(.lst acc)/\acc.length<=i/\aG K H2 a xs)
   (hs:∀i x acc H2,xs[i]?=⇑x->Pv i acc H2->qR g tif te (cB js σ) p acc (Pv (i+1)) x H2) (hd:∀acc H2,Pv xs.length acc H2->Q ↥p H2) :
   gZ (iO K a) g tif te js σ Q p H:=by
 show#[λi m acc H=>m=xs.length - i/\i<=xs.length/\Pv i acc H,#[xs.length,by simp,Hw _,h0],?_];rintro i m acc H2 ⟨rfl,hi,q⟩;let#[q1,q2,q3]:=hl i acc H2 hi q;show#[q1,?_];by_cases hlt:i<xs.length
 . refine .inr #[#[xs,xs[i],q3,by simp [hlt]],?_,Pv (i+1),λacc' H' p'=>#[xs.length - (i+1),∅,rfl,hlt,p'],λx H' y=>?_]
   . have:(1000000:Nat)<sizeLine:=by decide
     lia
   . let#[e,y]:=y;subst e;exact hs i x acc _ (y xs q3) q
 . have e:i=xs.length:=by lia
   subst e;exact .inl #[#[xs,q3,HY _],hd acc H2 q]
end
section
variable {X:Cx}
def A4 {h:Heap} {sl:L6} {vl vu:K'} {lo hi:Hl Int} (hs:h.IsSliceOf sl vl vu .none) (pl:IsPart vl lo) (pu:IsPart vu hi):∃l u:Hl (Int×Tok),l.map (·.1)=lo/\u.map (·.1)=hi/\h.IsSlice sl l u none:=by
 let#[o,ho,hc,hd]:=hs;cases pl with
 | none =>
   cases pu with
   | none=>show#[none,none,7,o,ho,hc,hd]
   | int j t=>show#[none,⇑(j,t),7,o,ho,hc,hd]
 | int i t =>
   cases pu with
   | none=>show#[⇑(i,t),none,7,o,ho,hc,hd]
   | int j t'=>show#[⇑(i,t),⇑(j,t'),7,o,ho,hc,hd]
abbrev Ah:V->Hl Int->Hl Int->Hp->VK->Prop:=λx lo hi H Q=>∃z,x=.str z/\z.length<=sizeLine/\Q (.str (Txt.slice z lo hi)) H
def qP:fW X Ah:=by
 intro pins s σ H x v vl vu lo hi sl Q I rx hs pl pu h;let#[z,rfl,hz,q]:=h;let#[t,rfl]:=rx;let#[l,u,rfl,rfl,hsl]:=A4 hs pl pu;show#["str",_,F.slot_str_getitem.lookup,typeIs_str _ _ _,wpAny_getItem_str_slice (l:=l) (u:=u) (st:=none) hsl rfl
   (post_val_or_str #[Hu (Txt.slice_le z _ _) hz,λt' k=>#[.str (Txt.slice z (l.map (·.1)) (u.map (·.1))),H,I.tok _,#[5],q]])]
def nJ {ys:List Str}:∀{us:List K'},aU (ys.map V.str) us->StrsAre us ys:=by
 induction ys with
 | nil=>intro us h; cases h; exact .nil
 | cons y r ih =>
   intro us h;cases h with
   | cons r1 h =>
     let#[t,rfl]:=r1;exact .cons y t (ih h)
abbrev Fh (K:L7):V->List V->Hp->VK->Prop:=λx xs H Q=>∃sep p ys,x=.str sep/\xs=[↥p]/\aE K H p (ys.map V.str)/\(ys.map (·.length)).sum+ys.length * sep.length<=16777216/\Q (.str (Txt.join sep ys)) H
def sN:mS X "str.join" (Fh X.K):=by intro pins s σ H x xs v us Q I rx r h;let#[sep,p,ys,rfl,rfl,hp,hl,q]:=h;let#[t,rfl]:=rx;let#[u,rfl,ru]:=gK r;cases (show u=Value.ref p from ru);let#[its,rv,pl,hz]:=I.list hp;exact join_list pl.isList (by simpa using nJ rv) hl λt' k=>#[.str (Txt.join sep ys),H,I.tok _,#[5],q]
def kW:aw X (.builtin "isinstance") (λxs H Q=>∃x c t b,xs=[x,.ty c]/\TyOf X.K H x t/\PySem.W.kitOne X.K t (.type c)=⇑b/\Q (.bl b) H):=by intro pins s σ H xs us Q I r h;let#[x,c,t,b,rfl,ty,hk,q]:=h;let#[u,w',rfl,rx,rc]:=oV r;cases (show w'=Value.type c from rc);exact tY I rx ty hk λtk=>#[.bl b,H,I.tok _,rfl,q]
end
abbrev kA:Expr->Hl V
 | .Constant (.str x) _ _=>⇑(.str x)
 | .Constant (.int i) _ _=>⇑(.int i)
 | .Constant (.bool b) _ _=>⇑(.bl b)
 | .Constant .none _ _=>some .non
 | _=>none
abbrev mF:List Expr->Hl (List V)
 | []=>⇑[]
 | e::r=>match kA e,mF r with
   | some v,⇑vs=>⇑(v::vs)
   | _,_=>none
def BW {e:Expr} {v:V} (h:kA e=⇑v):PE X e (tC v):=by
 unfold kA at h;split at h
 . cases h; exact ai
 . cases h; exact aH
 . cases h; exact bZ
 . cases h; exact eP
 . cases h
def FK {e:Expr} {es:List Expr} {v:V} (h:kA e=⇑v):starEach (e::es) X.env=(false,eval e X.env)::starEach es X.env:=by unfold kA at h;split at h <;> first|rfl|cases h
def sr {X:Cx}:∀{es:List Expr} {vs:List V},mF es=⇑vs->PA X es (λ_ H Q=>Q vs H)
 | [],vs,h=>by cases h;exact aD
 | e::r,vs,h=>by
   unfold mF at h;split at h
   . rename_i v vs' h1 h2
     cases h;exact aN (BW h1) (sr h2) (FK h1)
   . cases h
def aB.tup {K:L7} {H H':Hp} {a:L6} {xs:List V} (e:aB H H') (h:aG K H a xs):aG K H' a xs:=by
 rcases h with(h|⟨o,h⟩)|h
 . exact .inl (.inl (e _ _ h))
 . exact .inl (.inr #[o,e _ _ h])
 . exact .inr h
def aB.new {o:HO} (h:H p=none):aB H (upd H p o):=λb u e=>by rw[aM (cR e h)];exact e
def aB.upd {H':Hp}{o:HO} (e:aB H H') (h:H p=none):aB H (upd H' p o):=λb u q=>by rw[aM (cR q h)];exact e b u q
structure DefOk (K:W.Frag) (mg:Str->Option Value) (name:Str) (st:Stmt) (ps:List Str) (f:Addr) (fd:FuncData):Prop where
 F:Fun K name name st f fd
 g:mg name=⇑↥f
 b:dC K fd ps []
section
variable {X:Cx} {k:Nat} {f:L6} {fd:FuncData} {ps:List Str} {sp:Sp} {x:Str} {st:Stmt} {p pos:Pos} {e:Expr} {es:List Expr} {t:TA}
def cP (D:DefOk X.K X.mg x st ps f fd) (G:FnOk X.prog X.w X.K X.mg X.base CX0 k f fd ps sp) (hr:Room k X.A) (ha:PA X (e::es) t) (hg:Gl X x:=by rfl)
   (hdb:(x==("__debug__":Str))=false:=by decide) (he:starEach (e::es) X.env=(false,eval e X.env)::starEach es X.env:=by rfl) (hpl:(backTo pos (starEach es X.env)).any (·.1)=false:=by rfl) :
   PE X (.Call (.Name x p) (e::es) [] pos) (mz sp [] E0 t):=FJ G hr hg D.g D.F.kp D.b .nil bR ha hdb he hpl
def r6 {z:Int} (h:∃t,X.mg x=⇑(.int z t)) (hg:Gl X x:=by rfl) (hd:(x==("__debug__":Str))=false:=by decide):PE X (.Name x pos) (tC (.int z)):=by let#[t,h]:=h;exact qV hg h #[t,rfl] hd
def iF {a:L6} (h:X.mg x=⇑↥a) (hg:Gl X x:=by rfl) (hd:(x==("__debug__":Str))=false:=by decide):PE X (.Name x pos) (tC ↥a):=qV hg h rfl hd
end
def bn {K:L7} {mg:Str->Hl K'} {h:Heap} {name:Str} {st:Stmt} {ps:List Str} {f:L6} {oc:K'} {od an:Hl L6} {osl:Array (Hl K')} {kV doc pm cdv ct:K'} (X:K.In h) (G:h.Ns mainGlobals mg)
   (a:PySem.W.nsIn K mainGlobals name=⇑⇑↥f) (l:K.lookup f=⇑#[oc,od,.func (PySem.W.fnOf name name (dB st) (aP st) (aS st) .none kV doc pm an cdv ct),osl]) (c:PySem.W.codeIn K cdv name=true) (k:PySem.W.keepIn K ↥f=true)
   (b:∀(kV doc pm:K') (an:Hl L6) (cdv ct:K') (us:List K'),us.length=ps.length->bindArgs (PySem.W.fnOf name name (dB st) (aP st) (aS st) .none kV doc pm an cdv ct) #[us,[]]=pure (ps.zip us)) :
   DefOk K mg name st ps f (PySem.W.fnOf name name (dB st) (aP st) (aS st) .none kV doc pm an cdv ct) :=
 #[gn l c k,PySem.W.mg_of X G a,(gn l c k).binds b]
def rg {α:Type} {xs:List α} {i:Int} (h0:0<=i) (h1:i<xs.length):∃v,aq xs i=⇑v/\v∈xs:=by
 have hi:i.toNat<xs.length:=by lia
 show#[xs[i.toNat],?_,IT hi];have:=bv (xs:=xs) (j:=i.toNat) (v:=xs[i.toNat]) (by simp [hi]);have e:((i.toNat:Nat):Int)=i:=by lia
 rwa [e] at this
def D8 {ns:List Int} {i:Int} (h0:0<=i) (h1:i<ns.length):∃z,aq (ns.map V.int) i=⇑(.int z):=by let#[v,e,hv]:=rg (xs:=ns.map V.int) h0 (by rw[HS]; exact h1);let#[z,_,rfl]:=IJ.mp hv;show#[z,e]
def bG {p:Prop} [Decidable p] (h:decide p=true):p:=Ij h
def ah {c A B:Prop} [Decidable c] (hc:c) (h:A):if c then A else B:=by rw[He hc];exact h
def aa {c A B:Prop} [Decidable c] (hc:¬ c) (h:B):if c then A else B:=by rw[HX hc];exact h
end L2
namespace L2
open PySem
def bV:bootBuiltins "len"=⇑(.builtin "len"):=by decide +kernel
def dh:bootBuiltins "isinstance"=⇑(.builtin "isinstance"):=by decide +kernel
def El:bootBuiltins "sum"=⇑(.builtin "sum"):=by decide +kernel
def uk:bootBuiltins "str"=⇑(.type "str"):=by decide +kernel
def mW:bootBuiltins "int"=⇑(.type "int"):=by decide +kernel
def EG:bootBuiltins "bool"=⇑(.type "bool"):=by decide +kernel
def j7:bootBuiltins "list"=⇑(.type "list"):=by decide +kernel
def gW:bootBuiltins "tuple"=⇑(.type "tuple"):=by decide +kernel
def tX:bootBuiltins "dict"=⇑(.type "dict"):=by decide +kernel
def Bw:bootBuiltins "enumerate"=⇑(.type "enumerate"):=by decide +kernel
def Cd:bootBuiltins "zip"=⇑(.type "zip"):=by decide +kernel
def GQ {b:Bool} (h:b=false):¬ b=true:=by rw[h]; decide
end L2
namespace L2
open PySem PySem.Spec PyProof.Rows
mutual
noncomputable def bQ (K:L7) (H:Hp):PyData->V->Prop
 | .none,v=>v=.non
 | .bool b,v=>v=.bl b
 | .int i,v=>v=.int i
 | .str x,v=>v=.str x
 | .list ds,v=>∃a xs,v=↥a/\aE K H a xs/\cQ K H ds xs
 | .tuple ds,v=>∃a xs,v=↥a/\aG K H a xs/\cQ K H ds xs
 | .dict _,_=>False
noncomputable def cQ (K:L7) (H:Hp):List PyData->List V->Prop
 | [],xs=>xs=[]
 | d::ds,xs=>∃x r,xs=x::r/\bQ K H d x/\cQ K H ds r
end
section
variable {X:Cx} {pins:List (L6×Obj)} {σ:St} {H:Hp} {s:L5}
mutual
theorem kN (I:Inv X pins σ H s):∀(d:PyData) (v:V) (u:K'),bQ X.K H d v->aX v u->∃as,Reads s.heap u d as
 | .none,v,u,h,r=>by unfold bQ at h;subst h;cases (show u=Value.none from r);show#[_,.none]
 | .bool b,v,u,h,r=>by unfold bQ at h;subst h;cases (show u=Value.bool b from r);show#[_,.bool b]
 | .int i,v,u,h,r=>by
   unfold bQ at h;subst h;let#[t,rfl]:=(show ∃t,u=Value.int i t from r)
   show#[_,.int i t]
 | .str x,v,u,h,r=>by
   unfold bQ at h;subst h;let#[t,rfl]:=(show ∃t,u=Value.str x t from r)
   show#[_,.str x t]
 | .list ds,v,u,h,r=>by unfold bQ at h;let#[a,xs,rfl,hq,hd]:=h;cases (show u=Value.ref a from r);obtain⟨its,rv,⟨o,n,ho,hc,_,hdt⟩,_⟩:=I.list hq;let#[as,ra]:=pT I ds xs its hd rv;show#[_,.list ho hc hdt ↑ra]
 | .tuple ds,v,u,h,r=>by unfold bQ at h;let#[a,xs,rfl,hq,hd]:=h;cases (show u=Value.ref a from r);obtain⟨its,rv,⟨o,ho,hc,n,hdt⟩,_⟩:=I.tuple hq;let#[as,ra]:=pT I ds xs its hd rv;show#[_,.tuple ho hc hdt ↑ra]
 | .dict _,v,u,h,r=>by unfold bQ at h;exact h.elim
theorem pT (I:Inv X pins σ H s):∀(ds:List PyData) (xs:List V) (us:List K'),cQ X.K H ds xs->aU xs us->∃as,ReadsAll s.heap us ds as
 | [],xs,us,h,r=>by unfold cQ at h;subst h;cases r;show#[_,.nil]
 | d::ds,xs,us,h,r=>by
   unfold cQ at h;let#[x,rest,rfl,hd,hds]:=h;cases r with
   | cons r1 r2 =>
     let#[as,ra]:=kN I d _ _ hd r1;let#[bs,rb]:=pT I ds _ _ hds r2;show#[_,.cons ra rb]
end
end
abbrev oz (K:L7):R2:=λx y H Q=>∃d e,bQ K H d x/\bQ K H e y/\SeqAt.shaped d=true/\SeqAt.shaped e=true/\Q (.bl (PyData.eqv d e)) H
abbrev ux (K:L7):R2:=λx y H Q=>∃d e,bQ K H d x/\bQ K H e y/\SeqAt.shaped d=true/\SeqAt.shaped e=true/\Q (.bl (!PyData.eqv d e)) H
variable {X:Cx}
def zm (hu:X.A.units+64<cLine):bS X (compareOp .Eq) (oz X.K):=by intro pins s σ H x y v u Q I rx ry h;let#[d,e,hd,he,sd,se,q]:=h;let#[as,ra]:=kN I d x v hd rx;let#[bs,rb]:=kN I e y u he ry;exact SeqAt.compareEq_shaped ra rb sd se hu #[.bl _,H,I,rfl,q]
def wm (hu:X.A.units+64<cLine):bS X (compareOp .NotEq) (ux X.K):=by intro pins s σ H x y v u Q I rx ry h;let#[d,e,hd,he,sd,se,q]:=h;let#[as,ra]:=kN I d x v hd rx;let#[bs,rb]:=kN I e y u he ry;exact SeqAt.compareNe_shaped ra rb sd se hu #[.bl _,H,I,rfl,q]
section
variable {prog:Program} {w:World} {A:Around} {E:K'->L5->Prop}
def tt {it t:L6} {items:Array K'} (hne:t≠it):∀(n i:Nat) (s:L5) (Q:List K'->L5->Prop),s.heap.IsListIter it t i->s.heap.IsList t items->i+n<=items.size ->
   (∀h',h'.IsListIter it t (i+n)->Heap.SameBut it s.heap h'->Q ((items.toList.drop i).take n) { s with heap:=h' })->wpAny 0x6 A (draw ↥it n) Q E s
 | 0,i,s,Q,hit,_,_,hQ=>by show wpAny _ _ (pure []) Q E s;exact Ha (by simpa using hQ s.heap hit (Heap.SameBut.refl ..))
 | n+1,i,s,Q,hit,ht,hle,hQ=>by
   have hlt:i<items.size:=by lia
   show wpAny _ _ (pyNext ↥it >>= _) Q E s;refine HR (K4 hit ht (x:=items[i]) (by simp [hlt]) λh₁ hit₁ hs₁=>?_);refine HR (IW (tt hne n (i+1) _ _ hit₁ (ht.extBut hs₁.extBut hne) ∅ λh₂ hit₂ hs₂=>Ha ?_));have hd:items.toList.drop i=items[i]::items.toList.drop (i+1):=by simp [Kh,hlt]
   have:=hQ h₂ (by rw[show i+(n+1)=i+1+n by lia]; exact hit₂) (hs₁\hs₂);rw[hd,List.take_succ_cons] at this;exact this
def Gp {s:L5} {t:L6} {items:Array K'} {Q:List K'->L5->Prop} (hh:A.handled=none) (ht:s.heap.IsList t items)
   (hQ:∀h',Heap.ExtBut s.heap.objs.size s.heap h'->Q items.toList { s with heap:=h' }):wpAny 0x6 A (unpackItems ↥t items.size none) Q E s:=by
 have hlt:t≠s.heap.objs.size:=by let#[o,ho,_]:=ht; exact IG (Hm ho)
 unfold unpackItems;refine HR ?_;unfold notIterableAtAll;refine HR (wpAny_specialOf ht.typeIs slot_list_iter.lookup ?_);refine Ha ?_;simp only[JA,if_false];refine HR (IW (J0 ht ?_));refine HR (IW (tt hlt items.size 0 _ _ #[_,Hs _ rfl,7] (ht.push _) ∅ λh₁ hit₁ hs₁=>?_));have hall:List.take items.size (List.drop 0 items.toList)=items.toList:=by rw[Kw]; exact Ic 0x8
 rw[hall];rw[HX 0x8];have ht₁:h₁.IsList t items:=(ht.push _).extBut hs₁.extBut hlt;refine HR (IW (KB hh hit₁ ht₁ 0x8 λh₂ he₂=>?_));simp only[Option.isSome_none,JA,if_false];refine Ha (hQ h₂ λb o hb e=>he₂ b o hb (hs₁.extBut b o hb (HW _ e)))
end
abbrev Bz (K:L7) (n:Nat) (t:eV):TG:=λv σ H Q=>∃a xs,v=↥a/\aE K H a xs/\xs.length=n/\t xs σ H Q
variable {pos:Pos}
def Eo {es:List Expr} {k:Nat} {t:eV} {n:Nat} (hc:X.calm=true) (h:jv X es t)
   (hn:(assignEach es X.env).length=n:=by rfl) (hst:(assignEach es X.env).findIdx? (·.1)=none:=by rfl):PG X (.Tuple es k pos) (Bz X.K n t):=by
 intro pins s σ H v u Q I r hw;let#[a,xs,e1,hq,hl,hw]:=hw;subst e1;cases r;let#[its,rv,ht,hz]:=I.list hq;have hlen:=rv.length;rw[assign_Tuple];refine HR (Jr ?_);unfold unpack;rw[hst,hn,<- hl,hlen,show its.length=its.toArray.size by simp];refine HR (IW (Gp (I.ok.hd hc) ht.isList λh' hx=>?_));have I1:Inv X pins σ H { s with heap:=h' }:=I.kept (t':=s.toks) λb o e=>hx b o (IG (Hm e)) e;exact h pins _ σ H xs _ Q I1 ↑rv hw
def sL :bS X (binaryOp .FloorDiv) (rI (λ_ j=>0<j/\j<2 ^ 64) λi j=>.int (i / j)):=ju λi j _ _ _ _ _ hc q=>by
 have h1:(0:Int)<j:=hc.1;have h2:j<2 ^ 64:=hc.2;refine floordiv_int ∅ (by rw[KZ i ∅]; exact q) (.inl (PyProof.noPylong_of_log2 ?_));have h0:j.natAbs≠0:=by lia
 refine Nat.lt_trans (m:=64) ((Nat.log2_lt h0).mpr ?_) #[];have:(2:Int) ^ 64=((2 ^ 64:Nat):Int):=by decide
 lia
section
variable {κ:Type} [DecidableEq κ]
abbrev au (kvs:List (κ×V)) (k:κ):Hl V:=(kvs.find? λkv=>decide (kv.1=k)).map (·.2)
abbrev putK (kvs:List (κ×V)) (k:κ) (v:V):List (κ×V) :=
 if(kvs.any λkv=>decide (kv.1=k))=true then kvs.map (λkv=>if kv.1=k then(kv.1,v) else kv) else kvs++[(k,v)]
def fK {p:κ×V} {r:List (κ×V)} {k:κ} (e:p.1=k):au (p::r) k=⇑p.2:=by simp [au,Jg,e]
def eo {p:κ×V} {r:List (κ×V)} {k:κ} (e:¬ p.1=k):au (p::r) k=au r k:=by simp [au,Jg,e]
def j9 (k:κ):∀kvs:List (κ×V),(kvs.any λkv=>decide (kv.1=k))=(au kvs k).isSome
 | []=>rfl
 | p::r=>by
   rw[K6];by_cases e:p.1=k
   . simp only[fK e,Hf e,Bool.true_or,Option.isSome_some]
   . rw[eo e,IU e,Bool.false_or]; exact j9 k r
def vh (k j:κ) (y:V):∀kvs:List (κ×V),au (kvs.map λkv=>if kv.1=k then(kv.1,y) else kv) j=(au kvs j).map λx=>if j=k then y else x
 | []=>rfl
 | p::r=>by
   have ih:=vh k j y r;rw[IF];by_cases h:p.1=k
   . rw[He h];by_cases e:p.1=j
     . rw[fK (p:=(p.1,y)) e,fK e,KF,He (e.symm\h)]
     . rw[eo (p:=(p.1,y)) e,eo e,ih]
   . rw[HX h];by_cases e:p.1=j
     . rw[fK (p:=p) e,fK e,KF,HX (λz=>h (e\z))]
     . rw[eo (p:=p) e,eo e,ih]
def ud (k j:κ) (y:V):∀kvs:List (κ×V),au kvs k=none->au (kvs++[(k,y)]) j=if j=k then ⇑y else au kvs j
 | [],_=>by
   by_cases e:k=j
   . rw[He e.symm]; exact fK (p:=(k,y)) e
   . rw[HX (λz=>e z.symm)]; exact eo (p:=(k,y)) e
 | p::r,hn=>by
   rw[List.cons_append];have hk:¬ p.1=k:=λz=>by rw[fK z] at hn; cases hn
   rw[eo hk] at hn;have ih:=ud k j y r hn;by_cases e:p.1=j
   . rw[fK e,fK e,HX (λz=>hk (e\z))]
   . rw[eo e,eo e,ih]
def cf (kvs:List (κ×V)) (k j:κ) (y:V):au (putK kvs k y) j=if j=k then ⇑y else au kvs j:=by
 unfold putK;by_cases a:(kvs.any λkv=>decide (kv.1=k))=true
 . rw[He a,vh];rw[j9] at a;by_cases e:j=k
   . let#[x,hx]:=Jx.mp a;rw[He e,e,hx,KF,He rfl]
   . rw[HX e];cases au kvs j with
     | none=>rfl
     | some x=>rw[KF,HX e]
 . rw[HX a];refine ud k j y kvs ?_;rw[j9] at a;cases q:au kvs k with
   | none=>rfl
   | some x=>rw[q] at a; exact(a rfl).elim
def dL (kvs:List (κ×V)) (k:κ) (v:V):(putK kvs k v).length<=kvs.length+1:=by
 unfold putK;split
 . rw[HS]; lia
 . rw[HZ,II,JS]; lia
def ul {kvs:List (κ×V)} {k:κ} (v:V) (h:au kvs k=none):putK kvs k v=kvs++[(k,v)]:=by unfold putK;rw[j9,h];exact HX #[]
def d8.isSome_eq {o:Hl V} {u:Hl K'} (r:d8 o u):o.isSome=u.isSome:=by
 cases o with
 | none=>cases u with
   | none=>rfl
   | some _=>exact(show False from r).elim
 | some _=>cases u with
   | none=>exact(show False from r).elim
   | some _=>rfl
def d8.getD {o:Hl V} {u:Hl K'} {d:V} {d':K'} (r:d8 o u) (rd:aX d d'):aX (o.getD d) (u.getD d'):=by
 cases o with
 | none=>cases u with
   | none=>exact rd
   | some _=>exact(show False from r).elim
 | some _=>cases u with
   | none=>exact(show False from r).elim
   | some _=>exact r
def KV.val {kvs:List (κ×V)} {vs:List (κ×K')} (r:KV kvs vs) (k:κ):d8 (au kvs k) (valueAt vs k):=by
 unfold KV at r
 induction r with
 | nil=>exact True.intro
 | @cons p q ps qs h t ih =>
   let#[h1,h2]:=h;by_cases e:p.1=k
   . have e':q.1=k:=h1.symm\e;have b:valueAt (q::qs) k=⇑q.2:=by simp [valueAt,Jg,e']
     rw[fK e,b]; exact h2
   . have e':¬ q.1=k:=λz=>e (h1\z);have b:valueAt (q::qs) k=valueAt qs k:=by simp [valueAt,Jg,e']
     rw[eo e,b]; exact ih
def KV.any {kvs:List (κ×V)} {vs:List (κ×K')} (r:KV kvs vs) (k:κ):(kvs.any λkv=>decide (kv.1=k))=vs.any λkv=>decide (kv.1=k):=by
 unfold KV at r
 induction r with
 | nil=>rfl
 | cons h t ih=>rw[K6,K6,ih,h.1]
variable {u:K'} {y:V}
def KV.repl {kvs:List (κ×V)} {vs:List (κ×K')} (r:KV kvs vs) (k:κ) (ry:aX y u) :
   KV (kvs.map λkv=>if kv.1=k then(kv.1,y) else kv) (vs.map λkv=>if kv.1=k then(kv.1,u) else kv):=by
 unfold KV at r ⊢
 induction r with
 | nil=>exact .nil
 | @cons p q ps qs h t ih =>
   rw[IF,IF];refine .cons ?_ ih;let#[h1,h2]:=h;by_cases e:p.1=k
   . rw[He e,He (h1.symm\e)]; show#[h1,ry]
   . rw[HX e,HX (λz=>e (h1\z))]; show#[h1,h2]
def KV.put {kvs:List (κ×V)} {vs:List (κ×K')} (r:KV kvs vs) (k:κ) (ry:aX y u):KV (putK kvs k y) (stored vs k u):=by
 unfold putK stored;rw[r.any k];by_cases e:(vs.any λkv=>decide (kv.1=k))=true
 . rw[He e,He e]; exact r.repl k ry
 . rw[HX e,HX e]; exact Paired.snoc r #[rfl,ry]
def KV.length {kvs:List (κ×V)} {vs:List (κ×K')} (r:KV kvs vs):kvs.length=vs.length:=Paired.length r
end
variable {w:World}
def gJ {P:Program} {k:aF} (r:aX (kV k) u):(br P w).is k u=true:=by
 cases k with
 | inl i=>let#[t,e]:=(show ∃t,u=Value.int i t from r); subst e; exact GU P w i t
 | inr x=>let#[t,e]:=(show ∃t,u=Value.str x t from r); subst e; exact G0 P w x t
def vZ {P:Program} {w:World}:∀{ks:List aF} {us:List K'},aU (ks.map kV) us->ItemsAre (br P w) ks us
 | [],_,r=>by rw[List.map_nil] at r; cases r; exact .nil
 | k::ks,_,r=>by
   rw[IF] at r;cases r with
   | cons h t=>exact .cons (gJ h) (vZ t)
noncomputable abbrev KT (H:Hp):List (List aF×V)->List (List aF×L6×K')->Prop:=Paired λp q=>p.1=q.1/\H q.2.1=⇑(.tup (p.1.map kV))/\aX p.2 q.2.2
variable {H:Hp}
def KT.val {kvs:List (List aF×V)} {xs:List (List aF×L6×K')} (r:KT H kvs xs) (k:List aF):d8 (au kvs k) ((atKey xs k).map (·.2)):=by
 induction r with
 | nil=>exact True.intro
 | @cons p q ps qs h t ih =>
   let#[h1,_,h2]:=h;by_cases e:p.1=k
   . have e':q.1=k:=h1.symm\e;have b:atKey (q::qs) k=⇑q.2:=by simp [atKey,Jg,e']
     rw[fK e,b]; exact h2
   . have e':¬ q.1=k:=λz=>e (h1\z);have b:atKey (q::qs) k=atKey qs k:=by simp [atKey,Jg,e']
     rw[eo e,b]; exact ih
def KT.repl {kvs:List (List aF×V)} {xs:List (List aF×L6×K')} (r:KT H kvs xs) (k:List aF) (ry:aX y u) :
   KT H (kvs.map λkv=>if kv.1=k then(kv.1,y) else kv) (xs.map (putAt k u)):=by
 induction r with
 | nil=>exact .nil
 | @cons p q ps qs h t ih =>
   rw[IF,IF];refine .cons ?_ ih;let#[h1,h2,h3]:=h;unfold putAt;by_cases e:p.1=k
   . rw[He e,He (h1.symm\e)]; show#[h1,h2,ry]
   . rw[HX e,HX (λz=>e (h1\z))]; show#[h1,h2,h3]
def KT.put {kvs:List (List aF×V)} {xs:List (List aF×L6×K')} (r:KT H kvs xs) (k:List aF) {b:L6} (hb:H b=⇑(.tup (k.map kV))) (ry:aX y u) :
   KT H (putK kvs k y) (storedH xs k b u):=by
 have e:(kvs.any λkv=>decide (kv.1=k))=(atKey xs k).isSome:=by rw[j9,(r.val k).isSome_eq,Option.isSome_map]
 unfold putK storedH;rw[e];by_cases q:(atKey xs k).isSome=true
 . rw[He q,He q]; exact r.repl k ry
 . rw[HX q,HX q]; exact Paired.snoc r #[rfl,hb,ry]
variable {H':Hp}
def KT.keeps {kvs:List (List aF×V)} {xs:List (List aF×L6×K')} (r:KT H kvs xs) (ht:∀b ys,H b=⇑(.tup ys)->H' b=⇑(.tup ys)):KT H' kvs xs :=
 Paired.mapP r λ_ _ z=>#[z.1,ht _ _ z.2.1,z.2.2]
section
variable {P:Program} {w:World} {H:Hp} {h:Heap} {a:L6}
def wg {u:HO} (ok:bE P w H h) (e:Rd H a u):bX P w H h a u:=e.ok ok
def j0 {kvs:List (aF×V)} (ok:bE P w H h) (e:Rd H a (.dK kvs)):kvs.length<=sizeLine/\(a==sysModules)=false/\∃vs,KV kvs vs/\h.DictOf (br P w) a vs :=
 show bX P w H h a (.dK kvs) from wg ok e
def jG {kvs:List (aF×V)} (ok:bE P w H h) (e:H a=⇑(.dK kvs)):kvs.length<=sizeLine/\(a==sysModules)=false/\∃vs,KV kvs vs/\h.DictOf (br P w) a vs:=j0 ok (.inl e)
def jm {ks:List aF} (ok:bE P w H h) (e:H a=⇑(.tup (ks.map kV))):(tupleKind (br P w)).is h ks a:=by
 let#[_,its,r,o,h1,h2,n,h3]:=(show bX P w H h a (.tup (ks.map kV)) from ok a _ e)
 show#[o,its.toArray,n,h1,h2,h3,by simpa using vZ r]
def jQ {kvs:List (List aF×V)} (ok:bE P w H h) (e:Rd H a (.dT kvs)):kvs.length<=sizeLine/\(a==sysModules)=false /\
   ∃xs,KT H kvs xs/\h.DictOfH (tupleKind (br P w)) a xs:=by
 let#[z,y,xs,r,o,es,ep,h1,h2,h3,h4,h5]:=(show bX P w H h a (.dT kvs) from wg ok e)
 show#[z,y,xs,r,o,es,ep,h1,h2,h3,h4,λx hx=>?_,h5];have all:∀{l:List (List aF×V)} {m:List (List aF×L6×K')},KT H l m->∀x∈m,(tupleKind (br P w)).is h x.1 x.2.1:=by
   intro l m q
   induction q with
   | nil=>intro x hx; exact nomatch hx
   | @cons p q ps qs hq t ih =>
     intro x hx;rcases Hh.mp hx with e|hx
     . subst e;exact jm ok (by rw[<- hq.1]; exact hq.2.1)
     . exact ih x hx
 exact all r x hx
def G6 {kvs:List (List aF×V)} (ok:bE P w H h) (e:H a=⇑(.dT kvs)):kvs.length<=sizeLine/\(a==sysModules)=false /\
   ∃xs,KT H kvs xs/\h.DictOfH (tupleKind (br P w)) a xs:=jQ ok (.inl e)
end
abbrev dA (H:Hp) (a:L6) (y:V) (r:Hl V):Prop :=
 (∃kvs k,Rd H a (.dK kvs)/\y=kV k/\r=au kvs k)\/∃kvs k b,Rd H a (.dT kvs)/\y=↥b/\H b=⇑(.tup (k.map kV))/\r=au kvs k
abbrev ci (H:Hp) (a:L6) (y v:V) (H':Hp):Prop :=
 (∃kvs k,H a=⇑(.dK kvs)/\y=kV k/\kvs.length<sizeLine/\H'=upd H a (.dK (putK kvs k v))) \/
 ∃kvs k b,H a=⇑(.dT kvs)/\y=↥b/\H b=⇑(.tup (k.map kV))/\kvs.length<sizeLine/\H'=upd H a (.dT (putK kvs k v))
def dA.k {H:Hp} {a:L6} {kvs:List (aF×V)} {k:aF} (e:H a=⇑(.dK kvs)):dA H a (kV k) (au kvs k):=.inl #[kvs,k,.inl e,7]
def ci.k {H:Hp} {a:L6} {kvs:List (aF×V)} {k:aF} {v:V} (e:H a=⇑(.dK kvs)) (hl:kvs.length<sizeLine):ci H a (kV k) v (upd H a (.dK (putK kvs k v))):=.inl #[kvs,k,e,rfl,hl,rfl]
section
variable {X:Cx} {pins:List (L6×Obj)} {σ:St} {H:Hp} {s:L5} {a:L6} {y v:V} {u r:K'} {o:Hl V} {A:Around} {E:K'->L5->Prop}
def Inv.big (I:Inv X pins σ H s):sysModules<s.heap.objs.size:=by have h:mainGlobals<s.heap.objs.size:=(I.mod.glob.keeps I.bk).lt;exact Nat.lt_trans #[] h
def Ae {Q:K'->L5->Prop} (hu:A.units+1<cLine) (I:Inv X pins σ H s) (g:dA H a y ⇑v) (ry:aX y u) (h:∀w' s',Inv X pins σ H s'->aX v w'->Q w' s') :
   wpAny 0x3 A (getItem ↥a u) Q E s:=by
 rcases g with⟨kvs,k,e,ey,l⟩|⟨kvs,k,b,e,ey,eb,l⟩
 . subst ey;let#[z,hd,vs,rel,dd]:=j0 I.hok e;let#[w',hw,rw']:=d8.some_of (v:=v) (o:=valueAt vs k) (by rw[l]; exact rel.val k);exact wpAny_getItem_of (gJ ry) dd.mapOf hw (h w' _ (I.tok _) rw')
 . subst ey;cases (show u=Value.ref b from ry);let#[z,hd,xs,rel,dd]:=jQ I.hok e;let#[w',hw,rw']:=d8.some_of (v:=v) (o:=(atKey xs k).map (·.2)) (by rw[l]; exact rel.val k);let#[p,hp,hp2]:=Option.map_eq_some_iff.mp hw;refine wpAny_getItem_heap (tupleKind_room_in1 hu) (jm I.hok eb) dd hp ?_;rw[hp2];exact h w' _ (I.tok _) rw'
def FA {Q:K'->L5->Prop} (hu:A.units+1<cLine) (I:Inv X pins σ H s) (g:dA H a y o) (ry:aX y u) (h:∀s',Inv X pins σ H s'->Q (.bool o.isSome) s') :
   wpAny 0x3 A (compareOp .In u ↥a) Q E s:=by
 rcases g with⟨kvs,k,e,ey,l⟩|⟨kvs,k,b,e,ey,eb,l⟩
 . subst ey;let#[z,hd,vs,rel,dd]:=j0 I.hok e;refine wpAny_in_of (gJ ry) hd dd.mapOf ?_;rw[<- (rel.val k).isSome_eq,<- l];exact h _ (I.tok _)
 . subst ey;cases (show u=Value.ref b from ry);let#[z,hd,xs,rel,dd]:=jQ I.hok e;refine wpAny_in_heap (tupleKind_room_in1 hu) (jm I.hok eb) hd dd ?_;have q:=(rel.val k).isSome_eq;rw[Option.isSome_map] at q;rw[<- q,<- l];exact h _ (I.tok _)
def jV {h':Heap} {t':Nat} {ob:HO} (I:Inv X pins σ H s) (mu:kg (H a)) (hs:Heap.SameBut a s.heap h') (he:∃q,h'.get? a=⇑q) (new:bX X.prog X.w (upd H a ob) h' a ob) :
   Inv X pins σ (upd H a ob) { s with heap:=h',toks:=t' } :=
 I.write (x:=a) (e:=a) mu (.inl rfl) (λb q hb z=>(hs.2 b hb)\z) he new
def km {P:Program} {h':Heap} {kvs:List (aF×V)} {vs:List (aF×K')} (z:kvs.length<=sizeLine) (hd:(a==sysModules)=false) (rel:KV kvs vs) (dd:h'.DictOf (br P w) a vs) :
   bX P w H' h' a (.dK kvs):=#[z,hd,vs,rel,dd]
def EF {Q:Unit->L5->Prop} (hu:A.units+1<cLine) (I:Inv X pins σ H s) (g:ci H a y v H') (ry:aX y u) (rv:aX v r) (h:∀s',Inv X pins σ H' s'->Q () s') :
   wpAny 0x3 A (setItem ↥a u r) Q E s:=by
 rcases g with⟨kvs,k,e,ey,l,eH⟩|⟨kvs,k,b,e,ey,eb,l,eH⟩
 . subst ey eH;let#[z,hd,vs,rel,dd]:=jG I.hok e;have hz:vs.length<=sizeLine:=by rw[<- rel.length]; exact z
   have hl:(putK kvs k v).length<=sizeLine:=by have:=dL kvs k v; lia
   refine wpAny_setItem_pairs (hsz:=hz) (gJ ry) dd λh' dd' hs=>h _ ?_;have he:∃q,h'.get? a=⇑q:=by let#[q,_,_,hq,_]:=dd'; show#[q,hq]
   exact jV I (by rw[e]; exact True.intro) hs he (km hl hd (rel.put k rv) dd')
 . subst ey eH;cases (show u=Value.ref b from ry);let#[z,hd,xs,rel,dd]:=G6 I.hok e;have hz:xs.length<=sizeLine:=by rw[<- Paired.length rel]; exact z
   have hl:(putK kvs k v).length<=sizeLine:=by have:=dL kvs k v; lia
   refine wpAny_setItem_heap (hsz:=hz) (tupleKind_room_in1 hu) (jm I.hok eb) dd λh' dd' hs=>h _ ?_;let#[q,es,ep,hq,h2,h3,h4,_,h5]:=dd';refine jV I (by rw[e]; exact True.intro) hs #[q,hq] #[hl,hd,_,(rel.put k eb rv).keeps λc ys ec=>?_,q,es,ep,hq,h2,h3,h4,h5];rw[aM (iD ec e (λz=>nomatch z))];exact ec
end
abbrev vc (i:Expr):Prop:=∀ov iv,subscripted i false ov iv=operate [ov,iv] (getItem ov iv)
def C5 {prog:Program} {A:Around} {E:K'->L5->Prop} {s:L5} {env:Env} {value slice:Expr} {T id:String} {Q:K'->L5->Prop}
   (hl:typeLookup (.type T) "__getitem__"=pure ⇑(.builtin id)) (hs:vc slice)
   (h:wpAny 0x6 A (eval value env) (λo s₁=>wpAny 0x6 A (eval slice env) (λi s₂=>s₂.TypeIs o T/\wpAny 0x6 A (getItem o i) Q E s₂) E s₁) E s) :
   wpAny 0x6 A (eval (.Subscript value slice pos) env) Q E s:=by
 refine Subscript_ (Il h (λo s₁ h₁=>Il h₁ (λi s₂ h₂=>?_) λ_ _ x=>x) λ_ _ x=>x);let#[hT,h₂]:=h₂;unfold subscriptTail;refine HR ?_;rw[getitemInPython_of_ne hT.not_modules];refine HR (wpAny_specialOf hT hl ?_);have fin:wpAny 0x6 A (subscripted slice false o i) (λr s₃=>wpAny 0x6 A (letTemporaryGo value o r >>= λ_=>pure r) Q E s₃) E s₂:=by rw[hs o i];exact wpAny_operating (Il h₂ (λr s₃ h₃=>HR (wpAny_letTemporaryGo (Ha h₃))) λ_ _ x=>x)
 first
   | exact Ha (HR fin)
   | exact HR (Ha (HR fin))
   | exact HR fin
def Ev {pins:List (L6×Obj)} {σ:St} {s:L5} {a:L6} {o:Hl V} (I:Inv X pins σ H s) (g:dA H a y o):s.TypeIs ↥a "dict":=by
 rcases g with⟨kvs,k,e,_,_⟩|⟨kvs,k,b,e,_,_,_⟩
 . let#[_,_,vs,_,dd]:=j0 I.hok e;exact dd.typeIs
 . let#[_,_,xs,_,dd]:=jQ I.hok e;exact dd.typeIs
abbrev CD (td ty:TE):TE:=λσ H Q=>td σ H λx H1=>ty σ H1 λy H2=>∃a v,x=↥a/\dA H2 a y ⇑v/\Q v H2
abbrev zw (ty td:TE):TE:=λσ H Q=>ty σ H λy H1=>td σ H1 λx H2=>∃a o,x=↥a/\dA H2 a y o/\Q (.bl o.isSome) H2
abbrev Cf (td ty tv:TE):TS:=λD σ H=>tv σ H λv H1=>td σ H1 λx H2=>ty σ H2 λy H3=>∃a H4,x=↥a/\ci H3 a y v H4/\D.nx σ H4
section
variable {X:Cx} {o i e value:Expr} {pos pos' tpos:Pos} {td ty tv:TE}
def eE (hu:X.A.units+1<cLine) (ho:PE X o td) (hi:PE X i ty) (hs:vc i):PE X (.Subscript o i pos) (CD td ty):=by intro pins s σ H Q I h;refine C5 PySem.F.slot_dict_getitem.lookup hs (aQ (ho pins s σ H _ I h) λu s1 z106_=>z106_.e λx H1 I1 rx q1=>aQ (hi pins s1 σ H1 _ I1 q1) λiv s2 z107_=>?_);let#[y,H2,I2,ry,a,v,ex,g,q2]:=z107_;subst ex;obtain rfl:u=Value.ref a:=rx;show#[Ev I2 g,Ae hu I2 g ry λw' s3 I3 rw'=>#[v,H2,I3,rw',q2]]
def BD (hu:X.A.units+1<cLine) (hi:PE X i ty) (ho:PE X o td):PC X .In i o (zw ty td):=by intro pins s σ H Q I h;refine aQ (hi pins s σ H _ I h) λiv s1 z108_=>z108_.e λy H1 I1 ry q1=>aQ (ho pins s1 σ H1 _ I1 q1) λu s2 z109_=>?_;let#[x,H2,I2,rx,a,ov,ex,g,q2]:=z109_;subst ex;obtain rfl:u=Value.ref a:=rx;exact FA hu I2 g ry λs3 I3=>#[.bl ov.isSome,H2,I3,rfl,q2]
def dQ (hu:X.A.units+1<cLine) (ho:PE X o td) (hi:PE X i ty) (hv:PE X value tv) (hs:swapsWith value ⇑(.Subscript o i pos') pos.line X.env=pure false) :
   PS X (.Assign [.Subscript o i pos'] value pos) (Cf td ty tv):=by
 intro pins s σ H D I h;refine wpAny_Assign_Subscript (aQ (hv pins s σ H _ I h) λr s1 z112_=>z112_.e λv H1 I1 rv q1=>aQ (ho pins s1 σ H1 _ I1 q1) λu s2 z113_=>z113_.e λx H2 I2 rx q2=>aQ (hi pins s2 σ H2 _ I2 q2) λiv s3 z114_=>?_) hs;let#[y,H3,I3,ry,a,H4,ex,g,q3]:=z114_;subst ex;obtain rfl:u=Value.ref a:=rx;exact EF hu I3 g ry rv λs4 I4=>#[σ,H4,I4,q3]
end
def nR {P:Program} (h:Heap) (hb:sysModules<h.objs.size):bX P w H (h.push { cls:=.type "dict",data:=.dict 0xC }) h.objs.size (.dK []) :=
 #[Hw _,beq_eq_false_iff_ne.mpr (Ne.symm (IG hb)),[],.nil,Heap.DictOf.new h]
def BM {P:Program} (h:Heap) (hb:sysModules<h.objs.size):bX P w H (h.push { cls:=.type "dict",data:=.dict 0xC }) h.objs.size (.dT []) :=
 #[Hw _,beq_eq_false_iff_ne.mpr (Ne.symm (IG hb)),[],.nil,_,0xC,(0),Hs _ rfl,#[15],7,List.nodup_nil]
abbrev zj:TE:=λ_ H Q=>∀p,H p=none->Q ↥p (upd H p (.dK []))
abbrev AD:TE:=λ_ H Q=>∀p,H p=none->Q ↥p (upd H p (.dT []))
section
variable {X:Cx} {pos:Pos}
def dy:PE X (.Dict [] [] pos) zj:=λpins s σ H Q I h =>
 wpAny_Dict_empty #[↥s.heap.objs.size,_,I.laid (a:=s.heap.objs.size) (o:=.dK []) (t':=s.toks) (λ_ _ q=>HW _ q) (HY _) (nR s.heap I.big),rfl,h _ (I.hok.fresh (HY _))]
def DL:PE X (.Dict [] [] pos) AD:=λpins s σ H Q I h =>
 wpAny_Dict_empty #[↥s.heap.objs.size,_,I.laid (a:=s.heap.objs.size) (o:=.dT []) (t':=s.toks) (λ_ _ q=>HW _ q) (HY _) (BM s.heap I.big),rfl,h _ (I.hok.fresh (HY _))]
end
abbrev qv:List (TE×TE)->St->Hp->(List (V×V)->Hp->Prop)->Prop
 | [],_,H,Q=>Q [] H
 | (tk,tv)::r,σ,H,Q=>tk σ H λx H1=>tv σ H1 λy H2=>qv r σ H2 λps H3=>Q ((x,y)::ps) H3
noncomputable abbrev VV:List (V×V)->List (K'×K')->Prop:=Paired λp q=>aX p.1 q.1/\aX p.2 q.2
abbrev mT (X:Cx) (pos:Pos) (keys:List (Hl Expr)) (values:List Expr) (trs:List (TE×TE)):Prop :=
 ∀(pins:List (L6×Obj)) (s:L5) (σ:St) (H:Hp) (Q:List (V×V)->Hp->Prop),Inv X pins σ H s->qv trs σ H Q ->
   wpAny 0x3 X.A (evalPairs (pairTrees keys values X.env pos)) (λvs s'=>∃ps H',Inv X pins σ H' s'/\VV ps vs/\Q ps H') X.xe s
def EZ :mT X pos [] [] []:=λpins s σ H Q I h=>pairTrees_nil_walk #[[],H,I,.nil,h]
def oq {k v:Expr} {ks:List (Hl Expr)} {vs:List Expr} {tk tv:TE} {trs:List (TE×TE)} (hk:PE X k tk) (hv:PE X v tv) (hr:mT X pos ks vs trs) :
   mT X pos (⇑k::ks) (v::vs) ((tk,tv)::trs):=λpins s σ H Q I h =>
 pairTrees_cons_walk (aQ (hk pins s σ H _ I h) λu s1 ⟨x,H1,I1,rx,q1⟩=>aQ (hv pins s1 σ H1 _ I1 q1) λw2 s2 ⟨y,H2,I2,ry,q2⟩ =>
   aQ (hr pins s2 σ H2 _ I2 q2) λws s3 z123_=>by let#[ps,H3,I3,rel,q3]:=z123_; show#[(x,y)::ps,H3,I3,.cons #[rx,ry] rel,q3])
abbrev eW (kvs more:List (aF×V)):List (aF×V):=more.foldl 0x9 kvs
def KV.merge:∀{more:List (aF×V)} {rs:List (aF×K')} {kvs:List (aF×V)} {vs:List (aF×K')},KV more rs->KV kvs vs->KV (eW kvs more) (merged vs rs):=by
 intro more rs kvs vs r;unfold KV at r
 induction r generalizing kvs vs with
 | nil=>intro q; exact q
 | @cons p q ps qs h t ih =>
   intro r0;have e:KV (putK kvs p.1 p.2) (stored vs q.1 q.2):=by have:=r0.put p.1 h.2;rw[<- h.1]; exact this
   exact ih e
def wn:∀(more kvs:List (aF×V)),(eW kvs more).length<=kvs.length+more.length
 | [],kvs=>by show kvs.length<=kvs.length+0; lia
 | p::r,kvs=>by have h1:=wn r (putK kvs p.1 p.2);have h2:=dL kvs p.1 p.2;show(eW (putK kvs p.1 p.2) r).length<=_;rw[II]; lia
def vw {P:Program} {w:World}:∀{kvs:List (aF×V)} {ws:List (K'×K')},VV (kvs.map λkv=>(kV kv.1,kv.2)) ws->∃rs,Carries (br P w) ws rs/\KV kvs rs
 | [],_,r=>by rw[List.map_nil] at r; cases r; show#[[],True.intro,.nil]
 | p::kvs,_,r=>by
   rw[IF] at r;cases r with
   | @cons a b as bs h t =>
     let#[rs,c,q]:=vw (P:=P) (w:=w) t;let#[b1,b2]:=b;show#[(p.1,b2)::rs,#[gJ h.1,rfl,c],.cons #[rfl,h.2] q]
abbrev FD (trs:List (TE×TE)):TE:=λσ H Q=>∀p,H p=none->qv trs σ (upd H p (.dK [])) λps H2=>H2 p=⇑(.dK [])/\∃kvs:List (aF×V),ps=kvs.map (λkv=>(kV kv.1,kv.2))/\kvs.length<=15/\Q ↥p (upd H2 p (.dK (eW [] kvs)))
def Ci {keys:List (Hl Expr)} {values:List Expr} {trs:List (TE×TE)} (h:mT X pos keys values trs) (hall:keys.all (·.isSome)=true) (hl:keys.length=values.length) (h0:keys≠[])
   (h15:keys.length<=15):PE X (.Dict keys values pos) (FD trs):=by
 intro pins s σ H Q I q;have hn:=I.hok.fresh (HY s.heap.objs.size);have I1:=I.laid (a:=s.heap.objs.size) (o:=.dK []) (h':=s.heap.push { cls:=.type "dict",data:=.dict 0xC }) (t':=s.toks) (λ_ _ q=>HW _ q) (HY _) (nR s.heap I.big);refine wpAny_Dict_walk (knd:=br X.prog X.w) hall hl h0 h15 (aQ (h pins _ σ _ _ I1 (q _ hn)) λws s2 z124_=>?_);let#[ps,H2,I2,rel,e,kvs,ep,lk,q2]:=z124_;subst ep;let#[rs,c,rk]:=vw (P:=X.prog) (w:=X.w) rel;let#[z,hd,vs0,r0,dd]:=jG I2.hok e;cases r0;show#[rs,c,dd,λh' dd' hs=>#[↥s.heap.objs.size,_,?_,rfl,q2]];have hz:(eW [] kvs).length<=sizeLine:=by have h1:=wn kvs [];rw[JS] at h1;rw[sizeLine_eq]; lia
 have he:∃q,h'.get? s.heap.objs.size=⇑q:=by let#[q,_,_,hq,_]:=dd'; show#[q,hq]
 exact jV I2 (by rw[e]; exact True.intro) hs he (km hz hd (rk.merge .nil) dd')
structure M2 (X:Cx) (o:Expr) (m:Str) (apos:Pos) (e f:Expr) (cpos:Pos):Prop where
 base:attributeBase o m X.env (eval o X.env)=eval o X.env
 few:((backTo cpos (starEach [e,f] X.env)).all (λx=>!x.1)&&(backToKw cpos (keywordEach [] X.env)).all (λx=>x.1.isSome)
   && decide (([e,f]:List Expr).length+([]:List Keyword).length+(if([]:List Keyword).isEmpty then 0 else 1)<30))=true
 line:(apos.endLine==cpos.line)=true
 trees:backTo cpos (starEach [e,f] X.env)=[(false,eval e X.env),(false,eval f X.env)]
abbrev pY (H:Hp) (a:L6):Prop:=(∃kvs,Rd H a (.dK kvs))\/∃kvs,Rd H a (.dT kvs)
def vd {pins:List (L6×Obj)} {σ:St} {s:L5} {a:L6} (I:Inv X pins σ H s) (d:pY H a) :
   s.TypeIs ↥a "dict"/\(∀b,Value.ref a=↥b->∃ob,s.heap.get? b=⇑ob/\ob.dict=none)/\(a==sysModules)=false:=by
 rcases d with⟨kvs,e⟩|⟨kvs,e⟩
 . let#[_,hd,vs,_,dd]:=j0 I.hok e;show#[dd.typeIs,λb q=>?_,hd];cases q;let#[ob,_,_,h1,h2,_]:=dd;show#[ob,h1,h2.2.1]
 . let#[_,hd,xs,_,dd]:=jQ I.hok e;show#[dd.typeIs,λb q=>?_,hd];cases q;let#[ob,_,_,h1,h2,_]:=dd;show#[ob,h1,h2.2.1]
section
variable {X:Cx} {pins:List (L6×Obj)} {σ:St} {H:Hp} {s:L5} {a:L6} {y d:V} {u r:K'} {o:Hl V} {A:Around} {E:K'->L5->Prop}
def DC {Q:K'->L5->Prop} (hu:A.units+1<cLine) (I:Inv X pins σ H s) (g:dA H a y o) (ry:aX y u) (rd:aX d r) (h:∀w' s',Inv X pins σ H s'->aX (o.getD d) w'->Q w' s') :
   wpAny 0x3 A (call (.builtin "dict.get") [↥a,u,r]) Q E s:=by
 rcases g with⟨kvs,k,e,ey,l⟩|⟨kvs,k,b,e,ey,eb,l⟩
 . subst ey;let#[z,hd,vs,rel,dd]:=j0 I.hok e;refine call_meetsIn KC dd.typeIs PySem.F.entry_dict_get (Kp _ _ _) (meets_dict_get_default (br X.prog X.w) a (gJ ry) hd r) #[_,dd.mapOf,h _ _ (I.tok _) ?_];rw[l];exact(rel.val k).getD rd
 . subst ey;cases (show u=Value.ref b from ry);let#[z,hd,xs,rel,dd]:=jQ I.hok e;refine call_meetsIn KC dd.typeIs PySem.F.entry_dict_get (Kp _ _ _) (meetsH_dict_get_default (tupleKind (br X.prog X.w)) a b hd r) #[tupleKind_room_in1 hu,k,xs,jm I.hok eb,dd,h _ _ (I.tok _) ?_];rw[l];exact(rel.val k).getD rd
end
abbrev C7 (td ty tx:TE):TE:=λσ H Q=>td σ H λx H1=>∃a,x=↥a/\pY H1 a/\ty σ H1 λy H2=>tx σ H2 λz H3=>∃o,dA H3 a y o/\Q (o.getD z) H3
section
variable {X:Cx} {o e f:Expr} {apos cpos:Pos} {td ty tx:TE}
def pQ (hu:X.A.units+1<cLine) (ho:PE X o td) (he:PE X e ty) (hf:PE X f tx) (m:M2 X o "get" apos e f cpos):PE X (.Call (.Attribute o "get" apos) [e,f] [] cpos) (C7 td ty tx):=by
 intro pins s σ H Q I h;refine wpAny_Call_method m.base m.few m.line K0 KC PySem.F.type_dict_get (aQ (ho pins s σ H _ I h) λu s1 z127_=>?_);let#[x,H1,I1,rx,a,ex,d,q1]:=z127_;subst ex;obtain rfl:u=Value.ref a:=rx;let#[t1,t2,_]:=vd I1 d;show#[t1,t2,?_];rw[m.trees];refine Calls.callWith_builtin rfl (Calls.evalArgs_plain (Calls.spliced_cons (aQ (he pins s1 σ H1 _ I1 q1) λiv s2 ⟨y,H2,I2,ry,q2⟩ =>
   Calls.spliced_cons (aQ (hf pins s2 σ H2 _ I2 q2) λfv s3 ⟨z,H3,I3,rz,ov,g,q3⟩=>Calls.spliced_nil ?_))))
 exact DC hu I3 g ry rz λw' s4 I4 rw'=>#[_,H3,I4,rw',q3]
end
end L2
namespace PySem
def AT:typeLookup (.type "list") "keys"=pure none:=by rw[typeLookup_type,builtinLookup_eq_fast]; kernel_rfl
def mw:entryFor table "dict.update.loop"=⇑Builtin.«dict.update.loop»:=entryFor_of_tree (by kernel_rfl)
def gf:plainId "dict.update.loop"=true:=by decide +kernel
def CN {prog:Program} {w:World} {A:Around} {E:K'->L5->Prop} {s:L5} {a:L6} {o:Obj} {xs:Array K'} {k:Nat} {Q:Hl K'->L5->Prop}
   (hx:s.heap.get? a=⇑o) (hc:o.cls=.type "list") (hdat:o.data=.seq xs k) (hd:o.dict=none) (hA:A.handled=none)
   (h:∀h' tk,(∀b ob,s.heap.get? b=⇑ob->h'.get? b=⇑ob)->Q none { s with heap:=h',toks:=tk }) :
   wpAny 0x6 A (getAttr? ↥a "keys") Q E s:=by
 let#[c,dct,dat,sl]:=o;simp only at hc hdat hd;subst hc hdat hd;let#[hp,g,d,tk,os]:=s;have hT:∀tk',(⟨hp,g,d,tk',os⟩:L5).TypeIs ↥a "list":=λ_=>#[_,hx,rfl]
 have f1:=sub_AttributeError;have f3:=Jy.lookup;have f4:=Jy.bind ↥a;have f5:=am_list_getattr_none;unfold getAttr? getAttrBy? getAttrBy
 repeat (any_goals (first|assumption|exact hT _|((with_reducible show wpAny _ _ (call (Value.builtin "list.__getattribute__") _ _) _ _ _); refine call_meets Jy (hT _) am_entry_list_getattribute (F.args_list_getattribute_2 _ _) (meets_getattribute_miss_list a xs k sl "keys" _ AT 0x7 0x7) #[hx,hA,λh' tk' e hx'=>?_])|wp_step))
 let#[t',u',he]:=hx'.there
 try (show wpAny _ _ (getattributeRaised _ _ _ _ _ _ _) _ _ _)
 try unfold getattributeRaised
 repeat (any_goals (first|assumption|wp_step))
 all_goals (first|exact h _ _ hx'.keeps|trace_state)
end PySem
namespace L2
open PySem PySem.Spec PyProof.Rows
section
variable {X:Cx} {pins:List (L6×Obj)} {σ:St} {H:Hp}
def pH {α β:Type} {F:α->β->Prop}:∀{l:List α} {m:List β},Paired F l m->∀{i:Nat} (h1:i<l.length) (h2:i<m.length),F l[i] m[i]
 := by
 intro l m h
 induction h with
 | nil=>intro i h1; simp at h1
 | cons h t ih =>
   intro i h1 h2;cases i with
   | zero=>exact h
   | succ i =>
     have:=ih (i:=i) ↑h1 ↑h2;simpa using this
def EK {A:Around} {R:Result->L5->Prop} {p D it:L6} {ps:List L6} {kvs:List (aF×V)} (hA:A.handled=none) (hpD:p≠D) (hS:aE X.K H p (ps.map V.ref)) (hps:Paired (λa (kv:aF×V)=>aG X.K H a [kV kv.1,kv.2]) ps kvs)
   (hD:H D=none) (hz:kvs.length<=100000) (hit0:it≠D)
   (hR:∀s',Inv X pins σ (upd H D (.dK (kvs.foldl 0x9 []))) s'->R (.ok (.ret .none)) s') :
   ∀(k i:Nat) (t:Tok) (s:L5),kvs.length - i=k->i<=kvs.length->Inv X pins σ (upd H D (.dK ((kvs.take i).foldl 0x9 []))) s->s.heap.IsListIter it p i ->
     (∀H',H' it=none->dq X pins H' it)->H it=none->codeAny 0x3 A (.builtin "dict.update.loop" #[[↥D,↥it,.int (i:Nat) t,.none],[]]) R s:=by
 have sameD:∀o,aB H (upd H D o):=λo=>aB.new hD;have hlen:ps.length=kvs.length:=hps.length;have flen:∀(l:List (aF×V)) (acc:List (aF×V)),(l.foldl 0x9 acc).length<=acc.length+l.length:=by
   intro l
   induction l with
   | nil=>intro acc; simp
   | cons x r ih =>
     intro acc;rw[Jf];have h1:=ih (putK acc x.1 x.2);have h2:=dL acc x.1 x.2;simp only[II]
     lia
 have big:(100000:Nat)<sizeLine:=by decide
 intro k
 induction k with
 | zero =>
   intro i t s hk hi I hit hfp hHit;have e:i=kvs.length:=by lia
   subst e;rw[IP] at I;let#[its,rv,pl,hz']:=I.list ((sameD _).seq hS);let#[f0,f1,f2,f3,f4,f5]:=hfp (upd H D (.dK (kvs.foldl 0x9 []))) (by rw[aM hit0]; exact hHit);refine KG mw ?_;rw[Around.under_plainId gf _];show wpAny _ A.in1 (pyNext ↥it >>= _) _ _ s;have hl:=rv.length;rw[HS] at hl;refine HR (KB hA hit pl.isList (by simp; lia) λh' eb=>?_);have I1:Inv X pins σ (upd H D (.dK (kvs.foldl 0x9 []))) { s with heap:=h' }:=I.turned (t':=s.toks) (λb o hb e=>eb b o hb e) f0 f1 f3 f4 f5;show wpAny _ _ (Builtin.Dict.addKeywords D [] >>= _) _ _ _;exact HR (Ha (Ha (hR _ I1)))
 | succ k ih =>
   intro i t s hk hi I hit hfp hHit;have hlt:i<kvs.length:=by lia
   let#[its,rv,pl,hz']:=I.list ((sameD _).seq hS);have hpi:(ps.map V.ref)[i]?=⇑↥(ps[i]'∅):=by simp [show i<ps.length by lia]
   let#[u,hu,ru]:=rv.get hpi;cases (show u=Value.ref _ from ru);let#[f0,f1,f2,f3,f4,f5]:=hfp (upd H D (.dK ((kvs.take i).foldl 0x9 []))) (by rw[aM hit0]; exact hHit);refine KG mw ?_;rw[Around.under_plainId gf _];show wpAny _ A.in1 (pyNext ↥it >>= _) _ _ s;refine HR (K4 hit pl.isList (x:=.ref ps[i]) ↑hu λh' hit' sb=>?_);have I1:Inv X pins σ (upd H D (.dK ((kvs.take i).foldl 0x9 []))) { s with heap:=h' }:=I.turned (t':=s.toks) (λb o hb e=>(sb.2 b hb)\e) f0 f1 f3 f4 f5;have hpair:aG X.K H ps[i] [kV (kvs[i]).1,(kvs[i]).2]:=pH hps ∅ hlt;obtain⟨its2,rv2,⟨o2,ho2,hc2,n2,hd2⟩,_⟩:=I1.tuple ((sameD _)<*hpair);cases rv2 with
   | cons r1 rr =>
     cases rr with
     | cons r2 rr =>
       cases rr
       rename_i ku vu
       refine HR (IW (HR (wpAny_tryCatch ?_)));show wpAny _ _ (Builtin.Dict.pairItems (.ref ps[i])) _ _ _;unfold Builtin.Dict.pairItems;refine HR (Jl (T:="tuple") #[o2,ho2,hc2] ?_);rw[He #[]];refine HR ?_;show wpAny _ _ (load ps[i] >>= _) _ _ _;refine HR (wpAny_load ho2 ?_);rw[hd2];refine Ha (Ha ?_);show wpAny _ _ (holding [ku,vu] (dictSet D ku vu)) _ _ _;refine IW ?_;let#[z,hd,vs,rel,dd]:=jG I1.hok aI;have hl1:=flen (kvs.take i) [];have hl2:(kvs.take i).length<=kvs.length:=by rw[IE]; lia
       simp only[JS,KH] at hl1;have hzv:vs.length<=sizeLine:=by rw[<- rel.length]; exact z
       refine wpAny_dictSet_pairs (hsz:=hzv) (gJ r1) dd λh2 dd2 hs2=>?_;have he:∃q,h2.get? D=⇑q:=by let#[q,_,_,hq,_]:=dd2; show#[q,hq]
       have hl3:(putK ((kvs.take i).foldl 0x9 []) (kvs[i]).1 (kvs[i]).2).length<=sizeLine:=by
         have:=dL ((kvs.take i).foldl 0x9 []) (kvs[i]).1 (kvs[i]).2
         lia
       have I2:=jV (t':=({ s with heap:=h' }:L5).toks+1) I1 (by rw[aI]; exact True.intro) hs2 he (km hl3 hd (rel.put (kvs[i]).1 r2) dd2);rw[et] at I2;have e3:(kvs.take (i+1)).foldl 0x9 []=putK ((kvs.take i).foldl 0x9 []) (kvs[i]).1 (kvs[i]).2:=by rw[IM,IX];simp [hlt]
       rw[<- e3] at I2;have hit2:h2.IsListIter it p (i+1):=by let#[oi,hoi,ri]:=hit';show#[oi,(hs2.2 it hit0)\hoi,ri]
       refine Ha #[plainId_quiet gf _,?_];have:=ih (i+1) 0 _ ∅ ∅ I2 hit2 hfp hHit;exact this
end
section
variable {X:Cx}
abbrev DY (K:L7):List V->Hp->VK->Prop:=λxs H Q=>∃(p:L6) (ps:List L6) (kvs:List (aF×V)),xs=[↥p]/\aE K H p (ps.map V.ref)/\Paired (λa (kv:aF×V)=>aG K H a [kV kv.1,kv.2]) ps kvs/\kvs.length<=100000 /\
 ∀d,H d=none->Q ↥d (upd H d (.dK (kvs.foldl 0x9 [])))
def E5 (hc:X.calm=true):aw X (.type "dict") (DY X.K):=by
 intro pins s σ H xs us Q I r h;let#[p,ps,kvs,rfl,hS,hps,hz,q]:=h;let#[u,rfl,ru]:=gK r;cases (show u=Value.ref p from ru);have hA:=I.ok.hd hc;have hD:H s.heap.objs.size=none:=I.hok.fresh (HY _);let#[its,rv,pl,_]:=I.list hS;have hplt:p<s.heap.objs.size:=pl.lt;have I0:Inv X pins σ (upd H s.heap.objs.size (.dK [])) { s with heap:=s.heap.push { cls:=.type "dict",data:=.dict 0xC } } :=
   I.laid (a:=s.heap.objs.size) (o:=.dK []) (t':=s.toks) (λ_ _ q=>HW _ q) (HY _) (nR s.heap I.big)
 refine callType_codes (Q₁:=λobj s₁=>obj=↥s.heap.objs.size/\s₁={ s with heap:=s.heap.push { cls:=.type "dict",data:=.dict 0xC } }) PySem.F.kt_called_dict (Kb _) Kq (kt_code_dict_new _ #[7]) ?_;rintro obj s₁ ⟨rfl,rfl⟩;have hnew:(s.heap.push { cls:=.type "dict",data:=.dict 0xC }).DictOf (br X.prog X.w) s.heap.objs.size []:=Heap.DictOf.new s.heap;show#[hnew.typeIs,Ki _ _,?_];unfold Builtin.«dict.__init__»;refine HR ?_;unfold Builtin.Dict.selfAndRest;refine HR (wpAny_notOrdered_dict hnew.typeIs ?_);show wpAny _ _ (pure (s.heap.objs.size,[Value.ref p])) _ _ _;refine Ha ?_;show wpAny _ _ (Builtin.Dict.updateFrom "dict.__init__" s.heap.objs.size ↥p [] .none) _ _ _;unfold Builtin.Dict.updateFrom;let#[o,n,ho,hcl,hdi,hda]:=pl;have ho1:(s.heap.push { cls:=.type "dict",data:=.dict 0xC }).get? p=⇑o:=HW _ ho;refine HR (Jl (T:="list") #[o,ho1,hcl] ?_);rw[He #[]];refine HR (CN (s:={ s with heap:=s.heap.push { cls:=.type "dict",data:=.dict 0xC } }) ho1 hcl hda hdi hA λh' tk hk=>?_);have I1:Inv X pins σ (upd H s.heap.objs.size (.dK [])) { s with heap:=h',toks:=tk }:=I0.kept hk;rw[He 0x0];refine HR (KI ?_);have ho2:h'.get? p=⇑o:=hk _ _ ho1;refine HR (J0 (s:={ s with heap:=h',toks:=tk }) (items:=its.toArray) #[o,ho2,hcl,n,hda] ?_);have I2:Inv X pins σ (upd H s.heap.objs.size (.dK [])) { s with heap:=h'.push { cls:=.type "list_iterator",data:=.fields (List.toArray [↥p,.int 0 0]) },toks:=tk }:=I1.kept (t':=tk) λb o e=>HW _ e;have hsz:s.heap.objs.size<h'.objs.size:=by have e:(s.heap.push { cls:=.type "dict",data:=.dict 0xC }).get? s.heap.objs.size=some { cls:=.type "dict",data:=.dict 0xC }:=Hs _ rfl;exact Hm (hk _ _ e)
 have hit0:h'.objs.size≠s.heap.objs.size:=JC hsz;have hHit:H h'.objs.size=none:=I.hok.fresh (Jw hsz);refine Ha #[plainId_quiet gf _,?_];refine EK (A:=X.A.in1) (it:=h'.objs.size) hA (IG hplt) hS hps hD hz hit0 (λs' J=>#[rfl,↥s.heap.objs.size,_,J,rfl,q _ hD]) kvs.length 0 0 _ ∅ (Hw _) ↑I2 #[_,Hs _ rfl,7] (λH' hn=>I1.fpOk (HY _) hn) hHit
def vB:∀(xs:List V) (us:List K'),xs.length=us.length->(∀(i:Nat) (x:V) (u:K'),xs[i]?=⇑x->us[i]?=⇑u->aX x u)->aU xs us
 | [],[],_,_=>.nil
 | [],_::_,h,_=>by simp at h
 | _::_,[],h,_=>by simp at h
 | x::xs,u::us,h,k=>.cons (k 0 x u rfl rfl) (vB xs us ↑h λi y v e1 e2=>k (i+1) y v ↑e1 ↑e2)
def wI {P:Program} {w:World} {k:aF} {v:K'} (h:(br P w).is k v=true):aX (kV k) v:=by
 rcases g8 (show gz k v=true from h) with⟨i,t,rfl,rfl⟩|⟨x,t,rfl,rfl⟩
 . show#[t,rfl]
 . show#[t,rfl]
def AO {P:Program} {w:World} {kvs:List (aF×V)} {vs:List (aF×K')} {acc:Array K'} (rel:KV kvs vs) (h:ItemsOf (λi v=>∃k x,vs[i]?=⇑(k,x)/\(br P w).is k v=true) acc vs.length) :
   aU (kvs.map λkv=>kV kv.1) acc.toList:=by
 have hl:=rel.length;have el:acc.toList.length=acc.size:=by simp
 have hlen:(kvs.map λkv=>kV kv.1).length=acc.toList.length:=by rw[HS,el,h.1]; exact hl
 refine vB _ _ hlen λi x u e1 e2=>?_;let#[k,y,e3,e4]:=h.2 i u ↑e2;rw[Hk] at e1;cases e5:kvs[i]? with
 | none=>rw[e5] at e1; cases e1
 | some kv =>
   rw[e5] at e1;have e1:kV kv.1=x:=↑e1
   have e6:kv.1=k:=by
     have h1:i<kvs.length:=(HV.mp e5).1;have h2:i<vs.length:=by lia
     have e7:=pH rel h1 h2;have e8:kvs[i]=kv:=by have:=HV.mp e5; exact this.2
     have e9:vs[i]=(k,y):=by have:=HV.mp e3; exact this.2
     rw[e8,e9] at e7;exact e7.1
   rw[<- e1,e6];exact wI e4
def zu (hc:X.calm=true):aw X (.type "list") (λxs H Q=>∃d kvs,xs=[↥d]/\H d=⇑(.dK kvs)/\∀l,H l=none->Q ↥l (upd H l (.lst (kvs.map λkv=>kV kv.1)))):=by intro pins s σ H xs us Q I r h;let#[d,kvs,rfl,hd,q]:=h;let#[u,rfl,ru]:=gK r;cases (show u=Value.ref d from ru);let#[z,lo,vs,rel,dd]:=jG I.hok hd;have hlen:=rel.length;obtain⟨ep,dat⟩:∃ep,s.heap.DictAt (br X.prog X.w) d vs ep:=dd.dictAt;refine PySem.W.kdl_call (PySem.W.kdl_dict (knd:=br X.prog X.w) (kvs:=vs) (ep:=ep) lo) (I.ok.hd hc) dat (by rw[<- hlen]; exact z) λh' tk acc' c' hk hS hit=>?_;have hv:aU (kvs.map λkv=>kV kv.1) acc'.toList:=AO rel hit;show#[↥s.heap.objs.size,_,I.laid (a:=s.heap.objs.size) (o:=.lst (kvs.map λkv=>kV kv.1)) hk (HY _) #[by rw[HS]; exact z,acc'.toList,c',hv,by simpa using hS],rfl,q _ (I.hok.fresh (HY _))]
end
end L2
namespace L2
open PySem PySem.Spec PyProof.Rows PySem.W
section
variable {prog:Program} {w:World} {A:Around} {E:K'->L5->Prop} {s:L5} {δ:Type} {R:δ->K'->Prop} {a:L6} {D:List (Str×δ)} {k:Str} {tk:Tok} {d:δ}
def vX (T:KTD.TabOf R s.heap a D):s.TypeIs ↥a "dict":=by let#[_,o,_,_,ho,hc,_]:=T; show#[o,ho,hc.1]
def GA {Q:K'->L5->Prop} (T:KTD.TabOf R s.heap a D) (hd:KTD.datumAt k D=⇑d) (h:∀v,R d v->Q v { s with toks:=s.toks+1 }) :
   wpAny 0x6 A (getItem ↥a (.str k tk)) Q E s:=by
 have ty:=vX T;let#[_,o,es,ep,ho,hc,hdt,hr]:=T;unfold getItem
 try with_reducible refine IW ?_
 refine HR (Kf ty #[] ?_);refine HR (wpAny_callSpecial?_slot (name:=Str.ofString "__getitem__") ty slot_dict_getitem
   (Ix slot_dict_getitem ty entry_dict_getitem ?_ (args_dict_getitem _ _)))
 show wpAny _ _ (dictGet a (.str k tk) >>= _) _ _ s;refine HR ?_;unfold dictGet
 try with_reducible refine IW ?_
 refine HR (wpAny_pyHash_str (HR (KTD.kt_dictFind_strs (s:={ s with toks:=s.toks+1 }) ho hdt (by obtain⟨l⟩:=es; simpa using hr.exact) ?_)));have hq:∃v,findBy (λk v=>v.isStr k) es k=⇑v/\R d v:=by
   have hf:findBy (λk v=>v.isStr k) es k=(es.toList.find? λe=>e.key.isStr k).map (·.val):=by obtain⟨l⟩:=es;simp [findBy]
   rw[hf];exact hr.find_some hd
 let#[v,hv,hR]:=hq;rw[findBy_of_findIdx?] at hv;cases hi:es.findIdx? λe=>e.key.isStr k with
 | none=>rw[hi] at hv; cases hv
 | some i =>
   rw[hi] at hv;have hv:es[i]?.map (·.val)=⇑v:=hv;refine HR (wpAny_dictEntries (s:={ s with toks:=s.toks+1 }) ho hdt (Ha ?_));show wpAny _ _ _ _ _ _;rw[hv];exact Ha #[v,rfl,Ha (h v hR)]
end
abbrev n9 (K:L7) (d:L6) (rows:List (Str×List V)):Prop :=
 ∃(o:Obj) (es:Array DictEntry) (ep:Nat),K.lookup d=⇑o/\(d==sysModules)=false/\o.ExactDict/\o.data=.dict es ep/\KTD.Rows (λ(xs:List V) v=>∃a,v=↥a/\∀H:Hp,aG K H a xs) es.toList rows
abbrev za (K:L7):R2:=λx y H Q=>∃d rows k xs,x=↥d/\y=.str k/\n9 K d rows/\KTD.datumAt k rows=⇑xs/\∀a,aG K H a xs->Q ↥a H
def sV {X:Cx}:am X (za X.K):=by
 intro value slice pins s σ H x y v u Q I rx ry h hs;obtain⟨d,rows,k,xs,rfl,rfl,⟨o,es,ep,ho,lo,hc,hd,hr⟩,hk,q⟩:=h;cases (show v=Value.ref d from rx);let#[t,rfl]:=(show ∃t,u=Value.str k t from ry)
 have T:KTD.TabOf (λ(xs:List V) v=>∃a,v=↥a/\∀H:Hp,aG X.K H a xs) s.heap d rows:=#[lo,o,es,ep,I.kIn d o ho,hc,hd,hr]
 refine tail_any (vX T) slot_dict_getitem.lookup (GA T hk λv hv=>?_) hs;let#[a,rfl,hsq]:=hv;show#[↥a,H,I.tok _,rfl,q a (hsq H)]
end L2
namespace L2
open PySem PySem.Spec PyProof.Rows
abbrev pb:V->K'->Bool
 | .non,.none=>true
 | .bl b,.bool c=>b==c
 | .int i,.int j _=>i==j
 | .str x,.str y _=>x==y
 | _,_=>false
def A3:∀{x:V} {v:K'},pb x v=true->aX x v:=by
 intro x v h;unfold pb at h;split at h
 . rfl
 . obtain rfl:=beq_iff_eq.mp h; rfl
 . obtain rfl:=beq_iff_eq.mp h; show#[5]
 . obtain rfl:=beq_iff_eq.mp h; show#[5]
 . cases h
abbrev jM:List V->List K'->Bool
 | [],[]=>true
 | x::xs,v::vs=>pb x v&&jM xs vs
 | _,_=>false
def vy:∀{xs:List V} {vs:List K'},jM xs vs=true->aU xs vs
 | [],[],_=>.nil
 | x::xs,v::vs,h=>by simp only[jM,IN] at h;exact .cons (A3 h.1) (vy h.2)
 | [],_::_,h=>by simp [jM] at h
 | _::_,[],h=>by simp [jM] at h
abbrev kt (K:L7) (xs:List V) (v:K'):Bool:=match v with
 | .ref a=>match K.lookup a with
   | some o=>o.cls==.type "tuple"&&(match o.data with | .seq its _=>decide (its.size<=sizeLine)&&jM xs its.toList|_=>false)
   | none=>false
 | _=>false
def EC {K:L7} (xs:List V) (v:K') (h:kt K xs v=true):∃a,v=↥a/\∀H:Hp,aG K H a xs:=by
 unfold kt at h;split at h
 . rename_i a
   split at h
   . rename_i o ho
     rw[IN] at h;let#[h1,h2]:=h;split at h2
     . rename_i its n hd
       rw[IN] at h2;show#[a,rfl,λH=>.inr #[o,its,n,ho,beq_iff_eq.mp h1,hd,Ij h2.1,vy h2.2]]
     . cases h2
   . cases h
 . cases h
def tP {K:L7} {d:L6} {rows:List (Str×List V)} (h:KTD.tabLook (kt K) (λa=>K.lookup a) d rows=true):n9 K d rows:=by
 simp only[KTD.tabLook,IN] at h;let#[h0,hl]:=h;split at hl
 . rename_i o ho
   simp only[IN] at hl;obtain⟨⟨⟨e1,e2⟩,e3⟩,e4⟩:=hl;split at e4
   . rename_i es ep hd
     show#[o,es,ep,ho,by simpa using h0,#[beq_iff_eq.mp e1,by simpa using e2,by simpa using e3],hd,KTD.rows_of_look EC e4]
   . cases e4
 . cases hl
end L2
namespace L2
open PySem
abbrev uU:Expr->Hl (List V)
 | .List es _=>mF es
 | _=>none
def uc {X:Cx} {e:Expr} {vs:List V} (h:uU e=⇑vs):PE X e (wO λ_ H Q=>Q vs H):=by
 unfold uU at h;split at h
 . exact bI (sr h)
 . cases h
end L2
namespace L2
open PySem PySem.Spec PyProof.Rows
section
variable {prog:Program} {w:World} {A:Around} {E:K'->L5->Prop} {s:L5}
def gx_nextOf_tup {it t:L6} {i:Nat} {items:Array K'} {x:K'} {Q:K'->L5->Prop} (hit:s.heap.IsTupleIter it t i) (ht:s.heap.IsTuple t items) (hx:items[i]?=⇑x)
   (hQ:∀h',h'.IsTupleIter it t (i+1)->Heap.SameBut it s.heap h'->Q x { s with heap:=h' }):wpAny 0x6 A (Builtin.SmallTypes.nextOf ↥it) Q E s:=by
 obtain⟨⟨o,ho,hc,hd⟩,⟨ol,hol,_,nl,hdl⟩⟩:=(#[id hit,ht]:_/\_)
 unfold Builtin.SmallTypes.nextOf; refine HR (wpAny_callSpecial?_slot (name:=Str.ofString "__next__") hit.typeIs JV (Ix JV hit.typeIs KW ?_ (KS _)));show wpAny 0x6 _ (field ↥it 0 >>= _) _ _ s; refine HR (IR ho hd (x:=↥t) rfl ?_);show wpAny 0x6 _ (if(Value.ref t==Value.none)=true then _ else _) _ _ s; rw[HX (by exact Ho)];show wpAny 0x6 _ (field ↥it 1 >>= _) _ _ s; refine HR (IR ho hd (x:=.int i 0) rfl ?_);show wpAny 0x6 _ (seqItems? ↥t >>= _) _ _ s; refine HR (JL hol hdl ?_); simp only[JI,hx];refine HR (Jz ho hd 0x8 (Ha #[x,rfl,Ha (hQ _ #[_,J8 _ ho (Obj.isFreed_of_fields (Obj.data_mapFields hd _)),(Obj.cls_mapFields ..)\hc,by rw[Obj.data_mapFields hd]; simp [rawInt]] (Heap.SameBut.update ..))]))
def gx_nextOf_tup_end {it t:L6} {i:Nat} {items:Array K'} {Q:K'->L5->Prop} (hh:A.handled=none) (hit:s.heap.IsTupleIter it t i) (ht:s.heap.IsTuple t items) (hx:items[i]?=none)
   (hE:∀h' e,Heap.ExtBut it s.heap h'->(∃o,h'.get? e=⇑o/\o.cls=.type "StopIteration")->E ↥e { s with heap:=h' }):wpAny 0x6 A (Builtin.SmallTypes.nextOf ↥it) Q E s:=by
 obtain⟨⟨o,ho,hc,hd⟩,⟨ol,hol,_,nl,hdl⟩⟩:=(#[id hit,ht]:_/\_)
 unfold Builtin.SmallTypes.nextOf; refine HR (wpAny_callSpecial?_slot (name:=Str.ofString "__next__") hit.typeIs JV (Ix JV hit.typeIs KW ?_ (KS _)));show wpAny 0x6 _ (field ↥it 0 >>= _) _ _ s; refine HR (IR ho hd (x:=↥t) rfl ?_);show wpAny 0x6 _ (if(Value.ref t==Value.none)=true then _ else _) _ _ s; rw[HX (by exact Ho)];show wpAny 0x6 _ (field ↥it 1 >>= _) _ _ s; refine HR (IR ho hd (x:=.int i 0) rfl ?_);show wpAny 0x6 _ (seqItems? ↥t >>= _) _ _ s; refine HR (JL hol hdl ?_); simp only[JI,hx];refine HR (KI (HR (Jz ho hd 0x8 ?_))); show wpAny 0x6 _ (newExc (.type "StopIteration") [] >>= _) _ _ _;refine HR ?_; simp only[newExc,newTuple]; refine HR (J1 ?_ (by size_fits));refine HR (m:=firstArgMember _ _) (wpAny_of_eq (a:=Value.none) (by first|rfl|(simp only[firstArgMember]; rfl)) (J1 ?_ (by size_fits)));simp only[raiseNew]; refine HR (wpAny_handled ?_); first|rw[show A.in1.handled=none from hh] | rw[hh]
 refine HR (Ha (wpAny_throw (hE _ _ (((Heap.SameBut.update ..).extBut.push _).push _) #[_,Hs _ rfl,rfl])))
end
variable {w:World}
def uY {prog:Program} {A:Around} (hh:A.handled=none) (it t:L6) (hne:t≠it) (items:Array K') :
   Draws prog w A it [it,t] items.size (λi v=>items[i]?=⇑v) (λi h=>h.IsTupleIter it t i/\h.IsTuple t items) where
 live:=λ_ _ z135_=>by obtain⟨⟨o,ho,_⟩,_⟩:=z135_; show#[o,ho]
 frame:=λ_ _ _ z136_ hk=>by obtain⟨⟨o,ho,r⟩,⟨o2,ho2,r2⟩⟩:=z136_; show#[#[o,hk it 0x8 o ho,r],#[o2,hk t 0x8 o2 ho2,r2]]
 item:=λi s Q E hi z137_ hQ=>by let#[s1,s2]:=z137_; exact gx_nextOf_tup s1 s2 (x:=items[i]) (by simp [hi]) λh' hit' hs'=>hQ _ h' s.toks (by simp [hi]) #[hit',s2.extBut hs'.extBut hne] hs'
 done:=λs Q E z138_ hE=>by let#[s1,s2]:=z138_; exact gx_nextOf_tup_end hh s1 s2 0x8 hE
section
variable {X:Cx} {pins:List (L6×Obj)} {σ:St} {H:Hp} {s:L5} {h':Heap}
def Inv.turnedL {t':Nat} {ch:List L6} (I:Inv X pins σ H s) (k:∀b o,b ∉ ch->s.heap.get? b=⇑o->h'.get? b=⇑o) (hf:∀b∈ch,dq X pins H b):Inv X pins σ H { s with heap:=h',toks:=t' }:=by
 have nit:∀b u,H b=⇑u->b ∉ ch:=λb u e z=>by rw[(hf b z).1] at e; cases e
 refine I.step (g':=s.gens) (d':=s.drawn) (ch:=ch) (λb hb=>#[(hf b hb).2.2.2.1,(hf b hb).2.1,(hf b hb).2.2.2.2.1,(hf b hb).2.2.2.2.2]) (λb o _ _ hc e _=>k b o hc e) (λb o _ _ hc e _=>#[o.slots,k b o hc e]) (λ_ _ _ _ n=>n) (λb o hc e=>#[o,k b o hc e]) (λ_ _ e=>e) (λ_ _ _ e=>e) (λb ps e=>#[0xC,by rw[e]; simp]) (λm hm=>?_) (λb u e=>?_) I.bare
 . let#[o,es,ep,ho,r]:=hm;show#[o,es,ep,k _ _ (λz=>(hf _ z).2.1 rfl) ho,r]
 . have key:∀c,c=b\/H c=⇑(.own b)->c ∉ ch:=λc hc=>by
     rcases hc with z|z
     . subst z; exact nit _ u e
     . exact nit c _ z
   exact(I.hok b u e).stay (λc v hc q=>k c v (key c hc) q) (λ_ q=>q) λ_ _ q=>q
def Inv.turnLaid {t':Nat} {ch:List L6} {a:L6} {o:HO} (I:Inv X pins σ H s) (k:∀b o,b ∉ ch->s.heap.get? b=⇑o->h'.get? b=⇑o) (hf:∀b∈ch,dq X pins H b) (hp:s.heap.objs.size<=a) (new:bX X.prog X.w (upd H a o) h' a o) :
   Inv X pins σ (upd H a o) { s with heap:=h',toks:=t' }:=by
 have nit:∀b u,H b=⇑u->b ∉ ch:=λb u e z=>by rw[(hf b z).1] at e; cases e
 have hn:H a=none:=I.hok.fresh hp;refine I.step (g':=s.gens) (d':=s.drawn) (ch:=ch) (λb hb=>#[(hf b hb).2.2.2.1,(hf b hb).2.1,(hf b hb).2.2.2.2.1,(hf b hb).2.2.2.2.2]) (λb o _ _ hc e _=>k b o hc e) (λb o _ _ hc e _=>#[o.slots,k b o hc e]) (λb u _ q n=>by rw[aM (λz=>by subst z; exact absurd (IB (Hm q) hp) (Ia _))]; exact n) (λb o hc e=>#[o,k b o hc e]) (λb xs q=>by rw[aM (cR q hn)]; exact q) (λb u xs q=>by rw[aM (cR q hn)]; exact q) (λb ps q=>#[0xC,by rw[aM (cR q hn),q]; simp]) (λm hm=>?_) (λb u e=>?_) I.bare
 . let#[o,es,ep,ho,r]:=hm;show#[o,es,ep,k _ _ (λz=>(hf _ z).2.1 rfl) ho,r]
 . by_cases hb:b=a
   . subst hb;rw[aI] at e;cases e;exact new
   . rw[aM hb] at e;have key:∀c,c=b\/H c=⇑(.own b)->c ∉ ch:=λc hc=>by
       rcases hc with z|z
       . subst z; exact nit _ u e
       . exact nit c _ z
     exact(I.hok b u e).stay (λc v hc q=>k c v (key c hc) q) (λc q=>(aM (cR q hn))\q) λc xs q=>(aM (cR q hn))\q
end
def Df (l:L6) (items:Array K') (n:Nat) (dct:Hl L6) (sl:Array (Hl K')) :
   Meets (Builtin.«enumerate.__new__» #[[.type "enumerate",↥l],[]]) (λ_ R s=>s.heap.get? l=some { cls:=.type "tuple",dict:=dct,data:=.seq items n,slots:=sl } /\
     R (.ok (.ret ↥(s.heap.push { cls:=.type "tuple_iterator",data:=.fields (List.toArray [↥l,.int 0 0]) }).objs.size))
       { s with heap:=(s.heap.push { cls:=.type "tuple_iterator",data:=.fields (List.toArray [↥l,.int 0 0]) }).push { cls:=.type "enumerate",data:=.fields (List.toArray [.none,.bool false,↥s.heap.objs.size,rawInt 0,.none,.none]) } }) :=
 .of_wp λprog w A R s h=>by
   let#[h0,g0,d0,t0,o0]:=s;let#[hl,h]:=h;have hsub:=sub_enumerate;have hL:Heap.IsTuple (Shared.heap ⟨h0,g0,d0,t0,o0⟩) l items:=#[_,hl,rfl,n,rfl]
   wp_walk using AutoSeq1.wpAny_loadPart' hl
   refine wpAny_stack_any λst=>Ha ?_;split
   . rename_i c _ _ _ _ _
     cases (c==Value.type "enumerate") <;> (wp_walk using AutoSeq1.wpAny_loadPart' hl,J7 hL; show#[5,h])
   . wp_walk using AutoSeq1.wpAny_loadPart' hl,J7 hL; show#[5,h]
variable {l:L6}
def CF {prog:Program} {A:Around} {E:K'->L5->Prop} {s:L5} {items:Array K'} {Q:K'->L5->Prop} (hL:s.heap.IsTuple l items)
   (h:∀h',IsEnum h' (s.heap.objs.size+1) s.heap.objs.size 0 .none->h'.IsTupleIter s.heap.objs.size l 0->(∀b o,s.heap.get? b=⇑o->h'.get? b=⇑o)->Q ↥(s.heap.objs.size+1) { s with heap:=h' }) :
   wpAny 0x6 A (call (.type "enumerate") [↥l]) Q E s:=by
 obtain⟨⟨c,dct,dt,sl⟩,hl,hc,n,hd⟩:=hL;cases (show c=.type "tuple" from hc); cases (show dt=.seq items n from hd);refine callType_new F.called_enumerate #[] (F.typeCall_enumerate_1 _) (F.newCall_enumerate_1 _) (λobj=>F.args_object_init_2 obj _) F.entry_enumerate_new (Df l items n dct sl) #[hl,?_];have hz:(s.heap.push { cls:=.type "tuple_iterator",data:=.fields (List.toArray [↥l,.int 0 0]) }).objs.size=s.heap.objs.size+1:=Iy ..;have he:IsEnum ((s.heap.push { cls:=.type "tuple_iterator",data:=.fields (List.toArray [↥l,.int 0 0]) }).push { cls:=.type "enumerate",data:=.fields (List.toArray [.none,.bool false,↥s.heap.objs.size,rawInt 0,.none,.none]) }) (s.heap.objs.size+1) s.heap.objs.size 0 .none:=by have e:=Hs (s.heap.push { cls:=.type "tuple_iterator",data:=.fields (List.toArray [↥l,.int 0 0]) }) (o:={ cls:=.type "enumerate",data:=.fields (List.toArray [.none,.bool false,↥s.heap.objs.size,rawInt 0,.none,.none]) }) rfl;rw[hz] at e;exact e
 show _/\_;rw[hz];show#[#[_,he,rfl],h _ he #[_,HW _ (Hs _ rfl),7] λb o x=>HW _ (HW _ x)]
abbrev kf (K:L7) (a:L6):It :=
 #[λi H=>∃xs x,aG K H a xs/\xs[i]?=⇑x,λi H y H'=>∃b,y=↥b/\H b=none/\∀xs x,aG K H a xs->xs[i]?=⇑x->H'=upd H b (.tup [.int i,x]),λi H=>∃xs,aG K H a xs/\xs.length=i]
variable {K:L7} {elts:List Expr} {pos:Pos}
def FU {P:Program} {k:Nat} (a e it:L6) (hne:e≠it):Turn P w K (.Tuple elts k pos) (kf K a) [e,it] e (λi h=>(∃old,IsEnum h e it i old)/\h.IsTupleIter it a i) where
 mem:=by simp
 obj:=λi h st b hb=>by
   obtain⟨⟨old,he⟩,⟨o,ho,hc,hd⟩⟩:=st;rcases Hh.mp hb with z|z
   . subst z;show#[_,he,λv z=>by cases (show Data.fields _=Data.cell v from z)]
   . have z:b=it:=↑z
     subst z;show#[o,ho,λv z=>by rw[hd] at z; cases z]
 keep:=λi h h' st kk=>by obtain⟨⟨old,he⟩,⟨o,ho,r⟩⟩:=st;show#[#[old,kk e 0x8 _ he],#[o,kk it 0x8 o ho,r]]
 item:=by
   intro X hP hw hK hc i pins s σ H E I hf st hg;subst hP hw hK;obtain⟨⟨old,he⟩,hit⟩:=st;let#[xs,x,hq,hx]:=hg;let#[its,rv,p,hz]:=I.tuple hq;have pt:s.heap.IsTuple a its.toArray:=p;let#[u,hu,ru]:=rv.get hx;have hia:a≠it:=λz=>by
     subst z;let#[o1,h1,c1,_]:=hit;let#[o2,h2,c2,_]:=pt;rw[h1] at h2;cases h2;rw[c1] at c2;injection c2 with c2
     exact absurd c2 #[]
   have hea:e ∉ [it,a]:=λz=>by
     rcases Hh.mp z with z|z
     . exact hne z
     . have z:e=a:=↑z
       subst z;let#[o2,h2,c2,_]:=pt;rw[he] at h2;cases h2;injection (show Value.type "enumerate"=Value.type "tuple" from c2) with c2
       exact absurd c2 #[]
   have hlt:i<its.toArray.size:=by have:=(HV.mp hu).1;simpa using this
   refine Kr (uY (A:=X.A.in1) (I.ok.hd hc) it a hia its.toArray) he #[hit,pt] hlt hne hea λy h' tk hy hout hst hT hsz hk=>?_;show#[5,Kc hout λh2 he2 hs2=>?_];have hs2:Heap.SameBut e h' h2:=hs2;have hyu:y=u:=by
     have hy:its.toArray[i]?=⇑y:=hy;have:its[i]?=⇑y:=↑hy
     rw[hu] at this;exact(Option.some.inj this).symm
   subst hyu;have helt:e<s.heap.objs.size:=Hm he;have hfr:H s.heap.objs.size=none:=I.hok.fresh (HY _);have hnS:s.heap.objs.size≠e:=JC helt;have hT2:h2.get? s.heap.objs.size=some { cls:=.type "tuple",data:=.seq (List.toArray [.int i tk,y]) }:=(hs2.2 _ hnS)\hT;show#[↥s.heap.objs.size,upd H s.heap.objs.size (.tup [.int i,x]),I.turnLaid (t':=tk+1) (ch:=[e,it]) (λb o hb q=>?_) hf (HY _) ?_,rfl,#[s.heap.objs.size,rfl,hfr,λxs' x' hq' hx'=>?_],#[#[y,by exact_mod_cast he2],?_],λb hb=>?_]
   . have h1:b≠e:=λz=>hb (by simp [z]);have h3:b≠it:=λz=>hb (by simp [z]);exact(hs2.2 b h1).trans (hk b o h1 h3 q)
   . show#[by show 2<=sizeLine; decide,[.int i tk,y],.cons #[tk,rfl] (.cons ru .nil),#[_,hT2,13]]
   . have:=I.tuple_inj hq' hq;subst this;rw[hx] at hx';cases hx';rfl
   . obtain⟨⟨o,ho,r⟩,_⟩:=hst;show#[o,(hs2.2 it hne.symm)\ho,r]
   . have hb0:=(hf b hb).1;rw[aM]
     . exact hb0
     . intro z;subst z;let#[o,ho,_]:=hit;rcases Hh.mp hb with z|z
       . exact hnS z
       . have z:s.heap.objs.size=it:=↑z
         exact absurd (Hm ho) (by rw[<- z]; exact Ia _)
 done:=by
   intro X hP hw hK hc i pins s σ H E I hf st hg;subst hP hw hK;obtain⟨⟨old,he⟩,hit⟩:=st;let#[xs,hq,hx]:=hg;let#[its,rv,p,hz]:=I.tuple hq;have pt:s.heap.IsTuple a its.toArray:=p;have hl:=rv.length;have hia:a≠it:=λz=>by
     subst z;let#[o1,h1,c1,_]:=hit;let#[o2,h2,c2,_]:=pt;rw[h1] at h2;cases h2;rw[c1] at c2;injection c2 with c2
     exact absurd c2 #[]
   have hi:i=its.toArray.size:=by simp; lia
   refine wpAny_pyNext_enum_endD (uY (A:=X.A.in1) (I.ok.hd hc) it a hia its.toArray) he (by rw[<- hi]; show#[hit,pt]) λh' eb=>#[rfl,?_]
   exact I.turnedL (t':=s.toks) (ch:=[e,it]) (λb o hb q=>eb b o (λz=>hb (by simp [z])) q) hf
 self:=λ_ _ _ _ _ st h=>by obtain⟨⟨old,he⟩,_⟩:=st;exact Jj he h
variable {tb:TS} {σ:St} {H:Hp}
section
variable {X:Cx}
def qb:bootBuiltins "enumerate"=⇑(.type "enumerate"):=Bw
abbrev DZ (K:L7) (ta:TA):TI:=λσ H R=>ta σ H λvs H1=>∃a,vs=[↥a]/\(∃xs,aG K H1 a xs)/\R (kf K a) H1
def wD {a:Expr} {ta:TA} {p tpos:Pos}{k:Nat} (hg:Gl X "enumerate") (hm:X.mg "enumerate"=none) (ha:PA X [a] ta) (hs:starEach [a] X.env=[(false,eval a X.env)]:=by rfl):PI X (.Tuple elts k tpos) (.Call (.Name "enumerate" p) [a] [] pos) (DZ X.K ta):=by
 intro pins s σ H R I h;refine Call_ (fk I hg hm qb (Ie (aQ (ha pos pins s σ H _ I h) λus s1 z139_=>?_) hs rfl));let#[vs,H1,I1,r1,q1]:=z139_;obtain⟨a,e,⟨xs,hq⟩,q⟩:=q1;subst e;cases r1 with
 | cons r rr =>
   cases rr;cases r;let#[its,rv,p,hz]:=I1.tuple hq;refine CF (show s1.heap.IsTuple a its.toArray from p) λh' he hit hk=>?_;refine Jj he ?_;show#[s1.heap.objs.size+1,[s1.heap.objs.size+1,s1.heap.objs.size],4,H1,rfl,I1.kept (t':=s1.toks) hk,FU a (s1.heap.objs.size+1) s1.heap.objs.size (Kj _),#[#[.none,he],hit],λb hb=>?_,q];rcases Hh.mp hb with z|z
   . subst z;exact I1.fpOk (Ja _) (I1.hok.fresh (Ja _))
   . have z:b=s1.heap.objs.size:=↑z
     subst z;exact I1.fpOk (HY _) (I1.hok.fresh (HY _))
def uh {a:L6} {xs:List V} {g:TG} {D:c6} (Pv:Nat->St->Hp->Prop) (h0:Pv 0 σ H) (hl:∀i σ H,i<=xs.length->Pv i σ H->aG K H a xs)
   (hs:∀i x σ H b,xs[i]?=⇑x->Pv i σ H->H b=none->g ↥b σ (upd H b (.tup [.int i,x])) λσ2 H2=>tb { D with nx:=Pv (i+1),ct:=Pv (i+1),bk:=D.nx } σ2 H2) (hd:∀σ H,Pv xs.length σ H->D.nx σ H) :
   ∃W:Nat->Nat->St->Hp->Prop,(∃m,W 0 m σ H)/\∀i m σ H,W i m σ H->((kf K a).stop i H/\D.nx σ H)\/((kf K a).go i H/\∃N:St->Hp->Prop,(∀σ' H',N σ' H'->∃m',m'<m/\W (i+1) m' σ' H')/\∀x H',(kf K a).yld i H x H'->g x σ H' λσ2 H2=>tb { D with nx:=N,ct:=N,bk:=D.nx } σ2 H2):=by
 show#[λi m σ H=>m=xs.length - i/\i<=xs.length/\Pv i σ H,#[xs.length,by simp,Hw _,h0],?_];rintro i m σ H ⟨rfl,hi,p⟩;have q:=hl i σ H hi p;by_cases hlt:i<xs.length
 . refine .inr #[#[xs,xs[i],q,by simp [hlt]],Pv (i+1),λσ' H' p'=>#[xs.length - (i+1),∅,rfl,hlt,p'],λx H' y=>?_];let#[b,rfl,hb,y]:=y;rw[y xs xs[i] q (by simp [hlt])];exact hs i xs[i] σ H b (by simp [hlt]) p hb
 . have e:i=xs.length:=by lia
   subst e;exact .inl #[#[xs,q,rfl],hd σ H p]
end
section
variable {X:Cx} {pins:List (L6×Obj)} {σ:St} {H:Hp} {s:L5}
def Inv.freeze {d:L6} {kvs:List (aF×V)} (I:Inv X pins σ H s) (e:H d=⇑(.dK kvs)):∃o,s.heap.get? d=⇑o/\Inv X pins σ (upd H d (.frz o (.dK kvs))) s:=by
 obtain⟨z,hd,vs,rel,⟨o,es,ep,ho,r⟩⟩:=I.hok d _ e;show#[o,ho,?_];have nd:∀b u,H b=⇑u->u≠.dK kvs->b≠d:=λb u q n z=>by subst z;rw[e] at q;cases q;exact n rfl
 refine I.step (g':=s.gens) (t':=s.toks) (d':=s.drawn) (h':=s.heap) (ch:=[]) (λ_ z=>nomatch z) (λb o _ _ _ q _=>q) (λb o _ _ _ q _=>#[o.slots,q]) (λb o _ _ n=>?_) (λb o _ q=>#[o,q]) (λb xs q=>?_) (λb o u q=>?_) (λb ps q=>#[0xC,?_]) (λm hm=>hm) (λb u q=>?_) I.bare
 . rw[aM (λz=>by subst z; rw[e] at n; cases n)];exact n
 . rw[aM (nd b _ q (by intro z; cases z))];exact q
 . rw[aM (nd b _ q (by intro z; cases z))];exact q
 . rw[aM (nd b _ q (by intro z; cases z)),q];simp
 . have own:∀c b,H c=⇑(.own b)->(upd H d (.frz o (.dK kvs))) c=⇑(.own b):=λc b q=>(aM (nd c _ q (by intro z; cases z)))\q;have tup:∀c xs,H c=⇑(.tup xs)->(upd H d (.frz o (.dK kvs))) c=⇑(.tup xs):=λc xs q=>(aM (nd c _ q (by intro z; cases z)))\q;by_cases hb:b=d
   . subst hb;rw[aI] at q;cases q;show#[ho,(I.hok _ _ e).stay (λ_ _ _ q=>q) (λc q=>own c _ q) tup]
   . rw[aM hb] at q;exact(I.hok b u q).stay (λ_ _ _ q=>q) (λc q=>own c _ q) tup
end
def Fw:entryFor table "dict_itemiterator.__iter__"=⇑Builtin.«dict_keyiterator.__iter__»:=entryFor_alias (id':="dict_keyiterator.__iter__") (by kernel_rfl) (by first|rfl|decide +kernel|(unfold String.splitOn; simp +decide [String.splitOnAux])) 0x7 (by kernel_rfl)
abbrev i4 (o:Obj) (d:L6) (kvs:List (aF×V)):It :=
 #[λi H=>H d=⇑(.frz o (.dK kvs))/\i<kvs.length,λi H y H'=>∃b,y=↥b/\H b=none/\∀kv,kvs[i]?=⇑kv->H'=upd H b (.tup [kV kv.1,kv.2]),λi H=>H d=⇑(.frz o (.dK kvs))/\i=kvs.length]
def qy {X:Cx} {pins:List (L6×Obj)} {s:L5} {o:Obj} {d:L6} {kvs:List (aF×V)} (I:Inv X pins σ H s) (e:H d=⇑(.frz o (.dK kvs))) {es0:Array DictEntry} {ep:Nat} (hep:o.data=.dict es0 ep) :
   ∃vs,KV kvs vs/\s.heap.DictAt (br X.prog X.w) d vs ep:=by
 obtain⟨h1,z,hd,vs,rel,⟨o',es,ep',ho,hx,hdat,r⟩⟩:=I.hok d _ e;rw[h1] at ho;cases ho;rw[hep] at hdat;cases hdat;show#[vs,rel,o,es0,h1,hx,hep,r]
def ED {P:Program} {k:Nat} (o:Obj) (d it:L6) (kvs:List (aF×V)) (es0:Array DictEntry) (ep:Nat) (hep:o.data=.dict es0 ep) :
   Turn P w K (.Tuple elts k pos) (i4 o d kvs) [it] it (λi h=>∃ok ov,IsItemIter h it d i kvs.length ep ok ov) where
 mem:=by simp
 obj:=λi h st b hb=>by
   let#[ok,ov,he]:=st;have z:b=it:=↑hb
   subst z;show#[_,he,λv z=>by cases (show Data.fields _=Data.cell v from z)]
 keep:=λi h h' st kk=>by let#[ok,ov,he]:=st;show#[ok,ov,kk it 0x8 _ he]
 item:=by
   intro X hP hw hK hc i pins s σ H E I hf st hg;subst hP hw hK;let#[ok,ov,he]:=st;let#[hfz,hi]:=hg;let#[vs,rel,hD]:=qy I hfz hep;have hlen:kvs.length=vs.length:=KV.length rel;have hi':i<vs.length:=by lia
   have rk:kvs[i].1=vs[i].1/\aX kvs[i].2 vs[i].2:=pH rel hi hi';refine wpAny_pyNext_items_item (knd:=br X.prog X.w) (k:=vs[i].1) (v:=vs[i].2) (kvs:=vs) (by rw[<- hlen]; exact he) hD (by simp [hi']) λkey h' hkey hout hT hsz hk=>?_;show#[5,wpAny_letOwnedTupleGo_items hout λh2 he2 hs2=>?_];have hs2:Heap.SameBut it h' h2:=hs2;have hilt:it<s.heap.objs.size:=Hm he;have hnS:s.heap.objs.size≠it:=JC hilt;have hfr:H s.heap.objs.size=none:=I.hok.fresh (HY _);have hT2:h2.get? s.heap.objs.size=some { cls:=.type "tuple",data:=.seq (List.toArray [key,vs[i].2]) }:=(hs2.2 _ hnS)\hT;show#[↥s.heap.objs.size,upd H s.heap.objs.size (.tup [kV kvs[i].1,kvs[i].2]),I.turnLaid (t':=s.toks) (ch:=[it]) (λb o hb q=>?_) hf (HY _) ?_,rfl,#[s.heap.objs.size,rfl,hfr,λkv hkv=>?_],#[4,by rw[hlen]; exact he2],λb hb=>?_]
   . have h1:b≠it:=λz=>hb (by simp [z]);exact(hs2.2 b h1).trans (hk b o h1 q)
   . show#[by show 2<=sizeLine; decide,[key,vs[i].2],.cons (by rw[rk.1]; exact wI hkey) (.cons rk.2 .nil),#[_,hT2,13]]
   . have:kvs[i]=kv:=by simpa [hi] using hkv
     rw[<- this]
   . have z:b=it:=↑hb
     subst z;rw[aM hnS.symm];exact(hf _ hb).1
 done:=by
   intro X hP hw hK hc i pins s σ H E I hf st hg;subst hP hw hK;let#[ok,ov,he]:=st;let#[hfz,hi]:=hg;let#[vs,rel,hD]:=qy I hfz hep;have hlen:kvs.length=vs.length:=KV.length rel;refine wpAny_pyNext_items_end (knd:=br X.prog X.w) (kvs:=vs) (I.ok.hd hc) (by rw[<- hlen]; exact he) hD (by simp; lia) λh' eb=>#[rfl,?_]
   exact I.turnedL (t':=s.toks) (ch:=[it]) (λb o hb q=>eb b o (λz=>hb (by simp [z])) q) hf
 self:=λA i s Q E st h=>by
   let#[ok,ov,he]:=st;have hT:s.TypeIs ↥it "dict_itemiterator":=#[_,he,rfl]
   exact wpAny_pyIter_slot hT KN (Ix KN hT Fw (show wpAny _ _ (ret ↥it) _ _ s from Ha #[5,"dict_itemiterator",_,hT,F.slot_dict_itemiterator_next.lookup,h]) (F.args_dict_itemiterator_iter_1 _))
section
variable {X:Cx}
abbrev Bo (td:TE):TI:=λσ H R=>td σ H λx H1=>∃d kvs,x=↥d/\((H1 d=⇑(.dK kvs)/\∀o,R (i4 o d kvs) (upd H1 d (.frz o (.dK kvs))))\/∃o,H1 d=⇑(.frz o (.dK kvs))/\R (i4 o d kvs) H1)
def vg {l:Expr} {td:TE} {apos cpos tpos:Pos} {k:Nat} (hl:PE X l td) (hbase:attributeBase l "items" X.env (eval l X.env)=eval l X.env:=by rfl) (hline:(apos.endLine==cpos.line)=true:=by rfl) :
   PI X (.Tuple elts k tpos) (.Call (.Attribute l "items" apos) [] [] cpos) (Bo td):=by
 intro pins s σ H R I h;refine Ko hbase hline (aQ (hl pins s σ H _ I h) λv s1 z140_=>?_);let#[x,H1,I1,r1,q1]:=z140_;let#[d,kvs,rfl,q1]:=q1;cases r1;have key:∃o H2,Inv X pins σ H2 s1/\H2 d=⇑(.frz o (.dK kvs))/\R (i4 o d kvs) H2:=by
   rcases q1 with⟨e,q⟩|⟨o,e,q⟩
   . let#[o,ho,I2]:=I1.freeze e;show#[o,_,I2,aI,q o]
   . show#[o,H1,I1,e,q]
 let#[o,H2,I2,e2,q]:=key;let#[ho,z,hd,vs,rel,dd]:=I2.hok d _ e2;let#[o',es,ep,ho',hx,hdat,r]:=id dd;rw[ho] at ho';cases ho';show#["dict","dict.items",K0,Ks,PySem.F.type_dict_items,dd.typeIs,λb q=>?_,Calls.callWith_builtin rfl (PySem.evalArgs_none ?_)]
 . cases q;show#[o,ho,hx.2.1]
 refine call_meetsIn Ks dd.typeIs PySem.F.entry_dict_items (PySem.F.args_dict_items_1 _) (meets_dict_items (br X.prog X.w) d hd) #[#[vs,dd],?_];have I3:Inv X pins σ H2 { s1 with heap:=s1.heap.push { cls:=.type "dict_items",data:=.fields (List.toArray [↥d]) } }:=I2.kept (t':=s1.toks) λb o e=>HW _ e;let#[vs3,rel3,hD3]:=qy I3 e2 hdat;refine wpAny_pyIter_items (knd:=br X.prog X.w) (kvs:=vs3) (ep:=ep) #[_,Hs _ rfl,7] hD3 ?_;have hlen:kvs.length=vs3.length:=KV.length rel3;rw[<- hlen];generalize hh3:s1.heap.push { cls:=.type "dict_items",data:=.fields (List.toArray [↥d]) }=h3 at I3 ⊢;show#[h3.objs.size,[h3.objs.size],4,H2,rfl,I3.kept (t':=s1.toks) λb o e=>HW _ e,ED o d h3.objs.size kvs es ep hdat,#[4,Hs _ rfl],λb hb=>?_,q];have z:b=h3.objs.size:=↑hb
 subst z;exact I3.fpOk (HY _) (I3.hok.fresh (HY _))
def uE {o:Obj} {d:L6} {kvs:List (aF×V)} {g:TG} {D:c6} (Pv:Nat->St->Hp->Prop) (h0:Pv 0 σ H) (hl:∀i σ H,i<=kvs.length->Pv i σ H->H d=⇑(.frz o (.dK kvs)))
   (hs:∀i kv σ H b,kvs[i]?=⇑kv->Pv i σ H->H b=none->g ↥b σ (upd H b (.tup [kV kv.1,kv.2])) λσ2 H2=>tb { D with nx:=Pv (i+1),ct:=Pv (i+1),bk:=D.nx } σ2 H2) (hd:∀σ H,Pv kvs.length σ H->D.nx σ H) :
   ∃W:Nat->Nat->St->Hp->Prop,(∃m,W 0 m σ H)/\∀i m σ H,W i m σ H->((i4 o d kvs).stop i H/\D.nx σ H)\/((i4 o d kvs).go i H/\∃N:St->Hp->Prop,(∀σ' H',N σ' H'->∃m',m'<m/\W (i+1) m' σ' H')/\∀x H',(i4 o d kvs).yld i H x H'->g x σ H' λσ2 H2=>tb { D with nx:=N,ct:=N,bk:=D.nx } σ2 H2):=by
 show#[λi m σ H=>m=kvs.length - i/\i<=kvs.length/\Pv i σ H,#[kvs.length,by simp,Hw _,h0],?_];rintro i m σ H ⟨rfl,hi,p⟩;have q:=hl i σ H hi p;by_cases hlt:i<kvs.length
 . refine .inr #[#[q,hlt],Pv (i+1),λσ' H' p'=>#[kvs.length - (i+1),∅,rfl,hlt,p'],λx H' y=>?_];let#[b,rfl,hb,y]:=y;rw[y kvs[i] (by simp [hlt])];exact hs i kvs[i] σ H b (by simp [hlt]) p hb
 . have e:i=kvs.length:=by lia
   subst e;exact .inl #[#[q,rfl],hd σ H p]
end
section
variable {X:Cx} {o e f:Expr} {apos cpos:Pos} {td ty tx:TE}
abbrev Bb (td ty tx:TE):TE:=λσ H Q=>td σ H λx H1=>∃a,x=↥a/\pY H1 a/\ty σ H1 λy H2=>tx σ H2 λz H3=>∃kvs k,H3 a=⇑(.dK kvs)/\y=kV k/\kvs.length<sizeLine /\
 (∀v,au kvs k=⇑v->Q v H3)/\(au kvs k=none->Q z (upd H3 a (.dK (putK kvs k z))))
def Cv (ho:PE X o td) (he:PE X e ty) (hf:PE X f tx) (m:M2 X o "setdefault" apos e f cpos):PE X (.Call (.Attribute o "setdefault" apos) [e,f] [] cpos) (Bb td ty tx):=by
 intro pins s σ H Q I h;refine wpAny_Call_method m.base m.few m.line K0 KU PySem.F.type_dict_setdefault (aQ (ho pins s σ H _ I h) λu s1 z141_=>?_);let#[x,H1,I1,rx,a,ex,d,q1]:=z141_;subst ex;obtain rfl:u=Value.ref a:=rx;let#[t1,t2,_]:=vd I1 d;show#[t1,t2,?_];rw[m.trees];refine Calls.callWith_builtin rfl (Calls.evalArgs_plain (Calls.spliced_cons (aQ (he pins s1 σ H1 _ I1 q1) λiv s2 z142_=>z142_.e λy H2 I2 ry q2=>Calls.spliced_cons (aQ (hf pins s2 σ H2 _ I2 q2) λfv s3 ⟨z,H3,I3,rz,kvs,k,ea,ey,hl,q3,q4⟩=>Calls.spliced_nil ?_))));subst ey;let#[hz,hd,vs,rel,dd]:=jG I3.hok ea;refine call_meetsIn KU dd.typeIs PySem.F.entry_dict_setdefault (PySem.F.args_dict_setdefault_3 _ _ _) (kt_meets_setdefault (br X.prog X.w) a (gJ ry) hd fv) #[vs,dd,by rw[<- rel.length]; exact hz,λv hv=>?_,λhn h' dd' hs=>?_]
 . have rv:=rel.val k;rw[hv] at rv;cases l:au kvs k with
   | none=>rw[l] at rv; exact absurd rv (by intro z; cases z)
   | some v' =>
     rw[l] at rv;show#[v',H3,I3.tok _,rv,q3 v' l]
 . have rv:=rel.val k;rw[hn] at rv;have l:au kvs k=none:=by
     cases l:au kvs k with
     | none=>rfl
     | some v'=>rw[l] at rv; exact absurd rv (by intro z; cases z)
   have hex:∃q,h'.get? a=⇑q:=by let#[q,_,_,hq,_]:=dd'; show#[q,hq]
   have hlp:(putK kvs k z).length<=sizeLine:=by have:=dL kvs k z; lia
   show#[z,_,jV I3 (by rw[ea]; exact True.intro) hs hex (km hlp hd (rel.put k rz) dd'),rz,q4 l]
end
abbrev kC (hi:Int) (n:Nat):It:=#[λi _=>i<n,λi H x H'=>H'=H/\x=.int (hi - i),λi _=>n<=i]
def AQ {P:Program} {tg:Expr} (it:L6) (hi:Int) (n:Nat):Turn P w K tg (kC hi n) [it] it (λi h=>IsRangeIter h it (hi+(i:Nat) * (-1)) ((n:Int) - (i:Nat)) (-1)) where
 mem:=by simp
 obj:=λi h st b hb=>by
   have e:b=it:=↑hb
   subst e;show#[_,st,λv z=>by cases (show Data.fields _=Data.cell v from z)]
 keep:=λi h h' st k=>k it 0x8 _ st
 item:=by
   intro X hP hw hK hc i pins s σ H E I hf st hg;subst hP hw hK;refine(Walks.range (prog:=X.prog) (w:=X.w) (I.ok.hd hc) it hi (-1) n).item i s _ _ hg st λv h' tk hv st' kk=>?_;let#[t,rfl]:=hv;have I1:Inv X pins σ H { s with heap:=h',toks:=tk }:=I.turnedL (ch:=[it]) (λb o hb e=>kk b o hb e) hf;have e:hi+(i:Int) * (-1)=hi - (i:Int):=by lia
   show#[5,nz (s:={ s with heap:=h',toks:=tk }) (n:="range_iterator") st' rfl rfl #[] #[.int (hi - i),H,I1,#[t,by rw[e]],#[7],st',λb hb=>(hf b hb).1]]
 done:=by intro X hP hw hK hc i pins s σ H E I hf st hg;subst hP hw hK;exact wpAny_pyNext_range_end (I.ok.hd hc) st (by have:n<=i:=hg; lia) λh' eb=>#[rfl,I.turnedL (t':=s.toks) (ch:=[it]) (λb o hb e=>eb b o (λz=>hb (by simp [z])) e) hf]
 self:=λ_ _ _ _ _ st h=>wpAny_pyIter_rangeiter st h
def wL (a b:Int):Builtin.Range.rangeSize a b (-1)=if b<a then a - b else 0:=by
 unfold Builtin.Range.rangeSize;rw[HX #[]];have:(-(-1):Int)=1:=by decide
 rw[this];rw[Int.ediv_one];by_cases h:b<a
 . rw[He h,He h]; lia
 . rw[HX h,HX h]
def GR {a b:Int} (ha:-(2 ^ 60)<=a) (ha':a<2 ^ 60) (hb:-(2 ^ 60)<=b) (hb':b<2 ^ 60):Builtin.Range.small a b (-1)=true:=by
 unfold Builtin.Range.small;rw[wL];simp only[Builtin.Range.rangeFitsLong,IN,Bool.or_eq_true,JX,Kg,show ¬ ((-1:Int) > 0) by decide,if_false];by_cases h:b<a
 . simp only[He h]; lia
 . simp only[HX h]; lia
variable {n:Nat}
section
variable {X:Cx} {tg:Expr}
abbrev A5 (ta:TA):TI:=λσ H R=>ta σ H λvs H1=>∃i j:Int,vs=[.int i,.int j,.int (-1)]/\(-(2 ^ 60)<=i/\i<2 ^ 60/\-(2 ^ 60)<=j/\j<2 ^ 60)/\R (kC i (i - j).toNat) H1
def zY {a b c:Expr} {ta:TA} {p:Pos}(hg:Gl X "range") (hm:X.mg "range"=none) (ha:PA X [a,b,c] ta) (hs:starEach [a,b,c] X.env=(false,eval a X.env)::starEach [b,c] X.env:=by rfl) (hs2:(backTo pos (starEach [b,c] X.env)).any (·.1)=false:=by rfl) :
   PI X tg (.Call (.Name "range" p) [a,b,c] [] pos) (A5 ta):=by
 intro pins s σ H R I h;refine Call_ (fk I hg hm boot_range (Ie (aQ (ha pos pins s σ H _ I h) λus s1 z144_=>?_) hs hs2));let#[vs,H1,I1,r1,q1]:=z144_;obtain⟨i,j,e,⟨q1,q2,q3,q4⟩,q⟩:=q1;subst e;cases r1 with
 | cons r rr =>
   cases rr with
   | cons r' rr =>
     cases rr with
     | cons r'' rr =>
       cases rr;let#[t,rfl]:=r;let#[t',rfl]:=r';let#[t'',rfl]:=r'';refine call_range_3 #[] ?_ (.inl (PyProof.noPylong_small ∅));refine wpAny_pyIter_range (IsRange.new ..) (GR q1 q2 q3 q4) ?_;have I2:Inv X pins σ H1 { s1 with heap:=s1.heap.push { cls:=.type "range",data:=.fields (List.toArray [.int i t,.int j t',.int (-1) t'']) },toks:=s1.toks }:=I1.kept λb o e=>HW _ e;show#[_,[(s1.heap.push { cls:=.type "range",data:=.fields (List.toArray [.int i t,.int j t',.int (-1) t'']) }).objs.size],4,H1,rfl,I2.kept (t':=s1.toks) λb o e=>HW _ e,AQ _ i (i - j).toNat,?_,λb hb=>?_,q]
       . have e1:i+((0:Nat):Int) * (-1)=i:=by lia
         have e2:(((i - j).toNat:Nat):Int) - ((0:Nat):Int)=Builtin.Range.rangeSize i j (-1):=by rw[wL]; split <;> lia
         show IsRangeIter _ _ (i+((0:Nat):Int) * (-1)) ((((i - j).toNat:Nat):Int) - ((0:Nat):Int)) (-1);rw[e1,e2];exact Hs _ rfl
       . have e:b=(s1.heap.push { cls:=.type "range",data:=.fields (List.toArray [.int i t,.int j t',.int (-1) t'']) }).objs.size:=↑hb
         subst e;exact I2.fpOk (HY _) (I2.hok.fresh (HY _))
def EW {hi:Int} {g:TG} {D:c6} (Pv:Nat->St->Hp->Prop) (h0:Pv 0 σ H) (hs:∀i σ H,i<n->Pv i σ H->g (.int (hi - i)) σ H λσ2 H2=>tb { D with nx:=Pv (i+1),ct:=Pv (i+1),bk:=D.nx } σ2 H2) (hd:∀σ H,Pv n σ H->D.nx σ H) :
   ∃W:Nat->Nat->St->Hp->Prop,(∃m,W 0 m σ H)/\∀i m σ H,W i m σ H->((kC hi n).stop i H/\D.nx σ H)\/((kC hi n).go i H/\∃N:St->Hp->Prop,(∀σ' H',N σ' H'->∃m',m'<m/\W (i+1) m' σ' H')/\∀x H',(kC hi n).yld i H x H'->g x σ H' λσ2 H2=>tb { D with nx:=N,ct:=N,bk:=D.nx } σ2 H2):=by
 show#[λi m σ H=>m=n - i/\i<=n/\Pv i σ H,#[n,by simp,Hw _,h0],?_];rintro i m σ H ⟨rfl,hi',p⟩;by_cases hlt:i<n
 . refine .inr #[hlt,Pv (i+1),λσ' H' p'=>#[n - (i+1),∅,rfl,hlt,p'],λx H' y=>?_];let#[e,y]:=y;subst e y;exact hs i σ _ hlt p
 . have e:i=n:=by lia
   subst e;exact .inl #[HY _,hd σ H p]
end
def FN {X:Cx} {st:Stmt} {rest:List Stmt} {t u:TS} (h1:PS X st t) (h2:aO X rest u):aO X (st::rest) (λD σ H=>∃M:St->Hp->Prop,t { D with nx:=M } σ H/\∀σ' H',M σ' H'->u D σ' H'):=by
 intro pins s σ H D I h;let#[M,h,hm]:=h;refine Jb (aQ (h1 pins s σ H { D with nx:=M } I h) λf s1 q=>?_);cases f with
 | next =>
   let#[σ',H',I',q]:=q;exact h2 pins s1 σ' H' D I' (hm _ _ q)
 | ret v=>exact q
 | brk=>exact q
 | cont=>exact q
def Dm {X:Cx}:bS X (compareOp .Is) (λx y H Q=>∃a b,x=.bl a/\y=.bl b/\Q (.bl (decide (a=b))) H):=by intro pins s σ H x y v u Q I rx ry h;let#[a,b,rfl,rfl,q]:=h;cases rx;cases ry;exact wpAny_is_plain rfl (bj I q (by cases a <;> cases b <;> rfl))
abbrev cA (n:Nat) (d:PyData):Prop:=PyData.canLay0 d=true/\PyData.depth d<=n
def cA.int (i:Int):cA n (.int i):=#[by unfold PyData.canLay0; rfl,by unfold PyData.depth; exact Hw _]
def cA.bool (b:Bool):cA n (.bool b):=#[by unfold PyData.canLay0; rfl,by unfold PyData.depth; exact Hw _]
def cA.str {x:Str} (h:PyData.strOk x=true):cA n (.str x):=#[by unfold PyData.canLay0; exact h,by unfold PyData.depth; exact Hw _]
def qI {n:Nat}:∀{ds:List PyData},(∀d∈ds,cA n d)->PyData.canLayAll0 ds=true/\PyData.depthAll ds<=n
 | [],_=>#[by unfold PyData.canLayAll0; rfl,by unfold PyData.depthAll; exact Hw _]
 | d::ds,h=>by
   have h1:=h d Hj;have h2:=qI (λx hx=>h x (Hv _ hx));constructor
   . unfold PyData.canLayAll0; rw[h1.1,h2.1]; rfl
   . unfold PyData.depthAll; exact Nat.max_le.mpr #[h1.2,h2.2]
def cA.list {ds:List PyData} (h:∀d∈ds,cA n d):cA (n+1) (.list ds):=by have h2:=qI h;show#[by unfold PyData.canLay0; exact h2.1,by unfold PyData.depth; have:=h2.2; lia]
def cA.tuple {ds:List PyData} (h:∀d∈ds,cA n d):cA (n+1) (.tuple ds):=by have h2:=qI h;show#[by unfold PyData.canLay0; exact h2.1,by unfold PyData.depth; have:=h2.2; lia]
def cA.shaped {n:Nat} {d:PyData} (h:cA n d) (hn:n<=64):SeqAt.shaped d=true:=by unfold SeqAt.shaped;rw[h.1,Hf (Hu h.2 hn)];rfl
def cA.refl {d:PyData} (h:cA n d):PyData.eqv d d=true:=SeqAt.eqv_refl d h.1
def AY {x y:V} {Q:VK} {d:PyData} (hn:n<=64) (l:cA n d) (hx:bQ K H d x) (hy:bQ K H d y) (q:Q (.bl true) H):oz K x y H Q :=
 #[d,d,hx,hy,l.shaped hn,l.shaped hn,by rw[l.refl]; exact q]
def uq {x y:V} {Q:VK} {d:PyData} (hn:n<=64) (l:cA n d) (hx:bQ K H d x) (hy:bQ K H d y) (q:Q (.bl false) H):ux K x y H Q :=
 #[d,d,hx,hy,l.shaped hn,l.shaped hn,by rw[l.refl]; exact q]
mutual
theorem bQ.mono {K:L7} {H H':Hp} (e:aB H H'):∀(d:PyData) (v:V),bQ K H d v->bQ K H' d v
 | .none,v,h=>by unfold bQ at h ⊢; exact h
 | .bool b,v,h=>by unfold bQ at h ⊢; exact h
 | .int i,v,h=>by unfold bQ at h ⊢; exact h
 | .str x,v,h=>by unfold bQ at h ⊢; exact h
 | .list ds,v,h=>by unfold bQ at h ⊢;let#[a,xs,rfl,hq,hd]:=h;show#[a,xs,rfl,e.seq hq,cQ.mono e ds xs hd]
 | .tuple ds,v,h=>by unfold bQ at h ⊢;let#[a,xs,rfl,hq,hd]:=h;show#[a,xs,rfl,e<*hq,cQ.mono e ds xs hd]
 | .dict _,v,h=>by unfold bQ at h; exact h.elim
theorem cQ.mono {K:L7} {H H':Hp} (e:aB H H'):∀(ds:List PyData) (xs:List V),cQ K H ds xs->cQ K H' ds xs
 | [],xs,h=>by unfold cQ at h ⊢; exact h
 | d::ds,xs,h=>by unfold cQ at h ⊢;let#[x,r,rfl,hd,hds]:=h;show#[x,r,rfl,bQ.mono e d x hd,cQ.mono e ds r hds]
end
abbrev ers (l:L6) (H:Hp):Hp:=λb=>if b=l then none else H b
def ak {b:L6}(h:b≠l):ers l H b=H b:=by unfold ers; rw[HX h]
def bO :aB (ers l H) H:=λb o h=>by
 unfold ers at h;split at h
 . cases h
 . exact h
def fj {o:HO}:ers l (upd H l o)=ers l H:=by funext b;unfold ers upd;split <;> rfl
def aB.ers {l:L6} {H H':Hp} (e:aB H H'):aB (ers l H) (ers l H'):=λb o h=>by
 unfold L2.ers at h ⊢;split at h
 . cases h
 . rename_i hb
   rw[HX hb];exact e b o h
section
variable {g:TG} {tif:TT} {te:TE} {js:List (Hl Nat)} {σ:St} {H:Hp} {Q:VK}
def AM {lo:Int} {p:L6} (f:Nat->V) (hn:n<=1000000) (hp:H p=none)
   (hs:∀i H2 (R:VK),i<n->aB H H2->R (f i) H2->g (.int (lo+i)) (cB js σ) H2 λσ2 H3=>tif σ2 H3 λc H4=>if c=true then te σ2 H4 R else False)
   (hd:∀H2,aB H H2->H2 p=⇑(.lst ((List.range n).map f))->Q ↥p H2) (mono:∀x H2 (M M':St->Hp->Prop),(∀σ' H',M σ' H'->M' σ' H')->g x (cB js σ) H2 M->g x (cB js σ) H2 M':=by intro _ _ _ _ h z; exact h _ _ z) (mon2:∀σ2 H2 (M M':Bool->Hp->Prop),(∀c H',M c H'->M' c H')->tif σ2 H2 M->tif σ2 H2 M':=by intro _ _ _ _ h z; exact h _ _ z) :
   gZ (gE lo n) g tif te js σ Q p H:=by
 refine mx hn (λi acc H2=>aB H H2/\H2 p=⇑(.lst acc)/\acc=(List.range i).map f) #[aB.new hp,aI,rfl] ?_ ?_ ?_
 . rintro i acc H2 hi ⟨s2,e2,rfl⟩;show#[e2,by rw[HS,JY]; exact HY _]
 . rintro i acc H2 hi ⟨s2,e2,rfl⟩;refine mono _ _ _ _ (λσ' H' z=>?_) (hs i H2 (λy H5=>H5 p=⇑(.lst ((List.range i).map f))/\(aB H (upd H5 p (.lst ((List.range i).map f++[y])))/\upd H5 p (.lst ((List.range i).map f++[y])) p=⇑(.lst ((List.range i).map f++[y]))/\(List.range i).map f++[y]=(List.range (i+1)).map f)) hi s2 #[e2,s2.upd hp,aI,?_])
   . refine mon2 _ _ _ _ (λc H'' zz=>?_) z;cases c with
     | true=>exact zz
     | false=>exact zz.elim
   . rw[Ju,Hq];rfl
 . rintro acc H2 ⟨s2,e2,rfl⟩;exact hd H2 s2 e2
end
end L2
namespace Gx
open PySem L2
def cO:0<=sizeLine:=by decide
def eu:1<=sizeLine:=by decide
def bL:2<=sizeLine:=by decide
def dU:3<=sizeLine:=by decide
def gO:4<=sizeLine:=by decide
def gD {n:Nat} (h:n<1000000):n<=sizeLine:=by
 have:(1000000:Nat)<sizeLine:=by decide
 lia
def bU {x:V} {r:List V}:aq (x::r) 0=⇑x:=by unfold aq cb;rw[He #[],He 0x8];rfl
def vq {Q:VK} {H:Hp} {x y:V} (h:x=y) (q:Q y H):Q x H:=by subst h; exact q
def gd (z n:Int) (h:0<n):0<=z%n/\z%n<n:=#[JT _ ∅,JN _ h]
def Fx {α:Type} {es:List α} {f:α->V} {i:Nat} {x:V} (h:(es.map f)[i]?=⇑x):∃e,es[i]?=⇑e/\e∈es/\x=f e:=by
 rw[Hk] at h;cases he:es[i]? with
 | none=>rw[he] at h; cases h
 | some e=>rw[he] at h; cases h; show#[e,rfl,IA he,rfl]
end Gx
namespace L2
open PySem PySem.Spec PyProof.Rows
abbrev Fo (K:L7) (ta:TE):TT:=λσ H Q=>ta σ H λx H'=>∃k,oY K x H' k/\Q k H'
def GJ {X:Cx} {K:L7} {a:Expr} {ta:TE} (hK:X.K=K) (ha:PE X a ta) (he:∀whole,isTrue a X.env whole=(do let v <- whole; standAt a.pos; holding [v] (truthy v))):PT X a (Fo K ta):=by subst hK;exact Aa ha he
end L2
namespace Gx
open PySem L2
abbrev tx (l:List Nat):Str:=#[l.toArray]
def kX (l:List Nat):(tx l).cps.toList=l:=by unfold tx; simp
def dW (l:List Nat):(tx l).length=l.length:=by unfold tx Str.length; simp
def nY (z:Str):z=tx z.cps.toList:=by cases z; simp [tx]
def lD (a b:List Nat):tx a++tx b=tx (a++b):=by show(#[_++_]:Str)=_;unfold tx;simp
def nG {a b:List Nat} (h:tx a=tx b):a=b:=by rw[<- kX a,h,kX]
def F5 (y:Str) (ys:List Str):PySem.Txt.join "" (y::ys)=y++PySem.Txt.join "" ys:=by
 show PySem.Builtin.Str.glued ("":Str) (y::ys)=y++PySem.Builtin.Str.glued ("":Str) ys;rw[PySem.StrLaws.glued_eq_join,PySem.StrLaws.glued_eq_join];cases ys with
 | nil =>
   show y=y++Str.empty;cases y;show _=(#[_++(List.toArray [])]:Str);simp
 | cons z zs =>
   show y++""++Str.join "" (z::zs)=_;have:y++("":Str)=y:=by cases y;show(#[_++(List.toArray [])]:Str)=_;simp
   rw[this]
def qj:∀(ls:List (List Nat)),PySem.Txt.join "" (ls.map tx)=tx ls.flatten
 | []=>by show PySem.Builtin.Str.glued ("":Str) []=_;rw[PySem.StrLaws.glued_eq_join];rfl
 | l::ls=>by rw[IF,F5,qj ls,lD,J2]
end Gx
namespace L2
open PySem PySem.Spec PyProof.Rows
abbrev kx (K:L7) (a:L6):It :=
 #[λi H=>∃xs x,aE K H a xs/\xs[i]?=⇑x,λi H y H'=>∃b,y=↥b/\H b=none/\∀xs x,aE K H a xs->xs[i]?=⇑x->H'=upd H b (.tup [.int i,x]),λi H=>∃xs,aE K H a xs/\xs.length=i]
def BI {P:Program} {w:World} {K:L7} {elts:List Expr} {k:Nat} {pos:Pos} (a e it:L6) (hne:e≠it):Turn P w K (.Tuple elts k pos) (kx K a) [e,it] e (λi h=>(∃old,IsEnum h e it i old)/\h.IsListIter it a i) where
 mem:=by simp
 obj:=λi h st b hb=>by
   obtain⟨⟨old,he⟩,⟨o,ho,hc,hd⟩⟩:=st;rcases Hh.mp hb with z|z
   . subst z;show#[_,he,λv z=>by cases (show Data.fields _=Data.cell v from z)]
   . have z:b=it:=↑z
     subst z;show#[o,ho,λv z=>by rw[hd] at z; cases z]
 keep:=λi h h' st kk=>by obtain⟨⟨old,he⟩,⟨o,ho,r⟩⟩:=st;show#[#[old,kk e 0x8 _ he],#[o,kk it 0x8 o ho,r]]
 item:=by
   intro X hP hw hK hc i pins s σ H E I hf st hg;subst hP hw hK;obtain⟨⟨old,he⟩,hit⟩:=st;let#[xs,x,hq,hx]:=hg;let#[its,rv,p,hz]:=I.list hq;have pt:s.heap.IsList a its.toArray:=p.isList;let#[u,hu,ru]:=rv.get hx;have hia:a≠it:=λz=>by
     subst z;let#[o1,h1,c1,_]:=hit;let#[o2,h2,c2,_]:=pt;rw[h1] at h2;cases h2;rw[c1] at c2;injection c2 with c2
     exact absurd c2 #[]
   have hea:e ∉ [it,a]:=λz=>by
     rcases Hh.mp z with z|z
     . exact hne z
     . have z:e=a:=↑z
       subst z;let#[o2,h2,c2,_]:=pt;rw[he] at h2;cases h2;injection (show Value.type "enumerate"=Value.type "list" from c2) with c2
       exact absurd c2 #[]
   have hlt:i<its.toArray.size:=by have:=(HV.mp hu).1;simpa using this
   refine Kr (Draws.list (A:=X.A.in1) (I.ok.hd hc) it a hia its.toArray) he #[hit,pt] hlt hne hea λy h' tk hy hout hst hT hsz hk=>?_;show#[5,Kc hout λh2 he2 hs2=>?_];have hs2:Heap.SameBut e h' h2:=hs2;have hyu:y=u:=by
     have hy:its.toArray[i]?=⇑y:=hy;have:its[i]?=⇑y:=↑hy
     rw[hu] at this;exact(Option.some.inj this).symm
   subst hyu;have helt:e<s.heap.objs.size:=Hm he;have hfr:H s.heap.objs.size=none:=I.hok.fresh (HY _);have hnS:s.heap.objs.size≠e:=JC helt;have hT2:h2.get? s.heap.objs.size=some { cls:=.type "tuple",data:=.seq (List.toArray [.int i tk,y]) }:=(hs2.2 _ hnS)\hT;show#[↥s.heap.objs.size,upd H s.heap.objs.size (.tup [.int i,x]),I.turnLaid (t':=tk+1) (ch:=[e,it]) (λb o hb q=>?_) hf (HY _) ?_,rfl,#[s.heap.objs.size,rfl,hfr,λxs' x' hq' hx'=>?_],#[#[y,by exact_mod_cast he2],?_],λb hb=>?_]
   . have h1:b≠e:=λz=>hb (by simp [z]);have h3:b≠it:=λz=>hb (by simp [z]);exact(hs2.2 b h1).trans (hk b o h1 h3 q)
   . show#[by show 2<=sizeLine; decide,[.int i tk,y],.cons #[tk,rfl] (.cons ru .nil),#[_,hT2,13]]
   . have:=I.list_inj hq' hq;subst this;rw[hx] at hx';cases hx';rfl
   . obtain⟨⟨o,ho,r⟩,_⟩:=hst;show#[o,(hs2.2 it hne.symm)\ho,r]
   . have hb0:=(hf b hb).1;rw[aM]
     . exact hb0
     . intro z;subst z;let#[o,ho,_]:=hit;rcases Hh.mp hb with z|z
       . exact hnS z
       . have z:s.heap.objs.size=it:=↑z
         exact absurd (Hm ho) (by rw[<- z]; exact Ia _)
 done:=by
   intro X hP hw hK hc i pins s σ H E I hf st hg;subst hP hw hK;obtain⟨⟨old,he⟩,hit⟩:=st;let#[xs,hq,hx]:=hg;let#[its,rv,p,hz]:=I.list hq;have pt:s.heap.IsList a its.toArray:=p.isList;have hl:=rv.length;have hia:a≠it:=λz=>by
     subst z;let#[o1,h1,c1,_]:=hit;let#[o2,h2,c2,_]:=pt;rw[h1] at h2;cases h2;rw[c1] at c2;injection c2 with c2
     exact absurd c2 #[]
   have hi:i=its.toArray.size:=by simp; lia
   refine wpAny_pyNext_enum_endD (Draws.list (A:=X.A.in1) (I.ok.hd hc) it a hia its.toArray) he (by rw[<- hi]; show#[hit,pt]) λh' eb=>#[rfl,?_]
   exact I.turnedL (t':=s.toks) (ch:=[e,it]) (λb o hb q=>eb b o (λz=>hb (by simp [z])) q) hf
 self:=λ_ _ _ _ _ st h=>by obtain⟨⟨old,he⟩,_⟩:=st;exact Jj he h
section
variable {X:Cx}
abbrev Ea (K:L7) (ta:TA):TI:=λσ H R=>ta σ H λvs H1=>∃a,vs=[↥a]/\(∃xs,aE K H1 a xs)/\R (kx K a) H1
def En {a:Expr} {ta:TA} {p pos tpos:Pos} {elts:List Expr} {k:Nat} (hg:Gl X "enumerate") (hm:X.mg "enumerate"=none) (ha:PA X [a] ta) (hs:starEach [a] X.env=[(false,eval a X.env)]:=by rfl):PI X (.Tuple elts k tpos) (.Call (.Name "enumerate" p) [a] [] pos) (Ea X.K ta):=by
 intro pins s σ H R I h;refine Call_ (fk I hg hm qb (Ie (aQ (ha pos pins s σ H _ I h) λus s1 z149_=>?_) hs rfl));let#[vs,H1,I1,r1,q1]:=z149_;obtain⟨a,e,⟨xs,hq⟩,q⟩:=q1;subst e;cases r1 with
 | cons r rr =>
   cases rr;cases r;let#[its,rv,p,hz]:=I1.list hq;refine call_enumerate_list p.isList λh' he hit _ hk=>?_;refine Jj he ?_;show#[s1.heap.objs.size+1,[s1.heap.objs.size+1,s1.heap.objs.size],4,H1,rfl,I1.kept (t':=s1.toks) hk,BI a (s1.heap.objs.size+1) s1.heap.objs.size (Kj _),#[#[.none,he],hit],λb hb=>?_,q];rcases Hh.mp hb with z|z
   . subst z;exact I1.fpOk (Ja _) (I1.hok.fresh (Ja _))
   . have z:b=s1.heap.objs.size:=↑z
     subst z;exact I1.fpOk (HY _) (I1.hok.fresh (HY _))
def Bc {K:L7} {a:L6} {xs:List V} {g:TG} {tb:TS} {D:c6} {σ:St} {H:Hp} (Pv:Nat->St->Hp->Prop) (h0:Pv 0 σ H) (hl:∀i σ H,i<=xs.length->Pv i σ H->aE K H a xs)
   (hs:∀i x σ H b,xs[i]?=⇑x->Pv i σ H->H b=none->g ↥b σ (upd H b (.tup [.int i,x])) λσ2 H2=>tb { D with nx:=Pv (i+1),ct:=Pv (i+1),bk:=D.nx } σ2 H2) (hd:∀σ H,Pv xs.length σ H->D.nx σ H) :
   ∃W:Nat->Nat->St->Hp->Prop,(∃m,W 0 m σ H)/\∀i m σ H,W i m σ H->((kx K a).stop i H/\D.nx σ H)\/((kx K a).go i H/\∃N:St->Hp->Prop,(∀σ' H',N σ' H'->∃m',m'<m/\W (i+1) m' σ' H')/\∀x H',(kx K a).yld i H x H'->g x σ H' λσ2 H2=>tb { D with nx:=N,ct:=N,bk:=D.nx } σ2 H2):=by
 show#[λi m σ H=>m=xs.length - i/\i<=xs.length/\Pv i σ H,#[xs.length,by simp,Hw _,h0],?_];rintro i m σ H ⟨rfl,hi,p⟩;have q:=hl i σ H hi p;by_cases hlt:i<xs.length
 . refine .inr #[#[xs,xs[i],q,by simp [hlt]],Pv (i+1),λσ' H' p'=>#[xs.length - (i+1),∅,rfl,hlt,p'],λx H' y=>?_];let#[b,rfl,hb,y]:=y;rw[y xs xs[i] q (by simp [hlt])];exact hs i xs[i] σ H b (by simp [hlt]) p hb
 . have e:i=xs.length:=by lia
   subst e;exact .inl #[#[xs,q,rfl],hd σ H p]
end
end L2
namespace PySem
open Sem (wp)
abbrev bh (b:Bool) (h:Heap) (it l:L6) (k:Nat):Prop:=match b with|true=>h.IsTupleIter it l k|false=>h.IsListIter it l k
abbrev cG (b:Bool) (h:Heap) (l:L6) (xs:Array K'):Prop:=match b with|true=>h.IsTuple l xs|false=>h.IsList l xs
variable {h h':Heap} {it l:L6}
def bh.at {b:Bool} {k:Nat} (p:bh b h it l k) (e:∀o,h.get? it=⇑o->h'.get? it=⇑o):bh b h' it l k:=by cases b <;> (let#[o,ho,r]:=p; show#[o,e o ho,r])
variable {xs:Array K'}
def cG.at {b:Bool} (p:cG b h l xs) (e:∀o,h.get? l=⇑o->h'.get? l=⇑o):cG b h' l xs:=by cases b <;> (let#[o,ho,r]:=p; show#[o,e o ho,r])
def bh.extBut {b:Bool} {c:L6}{k:Nat} (p:bh b h it l k) (e:Heap.ExtBut c h h') (n:it≠c):bh b h' it l k:=p.at λo ho=>e _ _ n ho
def cG.extBut {b:Bool} {c:L6}(p:cG b h l xs) (e:Heap.ExtBut c h h') (n:l≠c):cG b h' l xs:=p.at λo ho=>e _ _ n ho
def bh.lt {b:Bool} {k:Nat} (p:bh b h it l k):it<h.objs.size:=by cases b <;> (let#[o,ho,r]:=p; exact Hm ho)
variable {b1 b2:Bool} {z i1 i2 l1 l2:L6} {k1 k2:Nat} {ys:Array K'} {a:K'}
section
variable {prog:Program} {w:World} {A:Around} {E:K'->L5->Prop} {s:L5}
def pF {b:Bool} {i:Nat} {items:Array K'} {x:K'} {Q:K'->L5->Prop} (p:bh b s.heap it l i) (q:cG b s.heap l items) (hx:items[i]?=⇑x)
   (hQ:∀h',bh b h' it l (i+1)->Heap.SameBut it s.heap h'->Q x { s with heap:=h' }):wpAny 0x6 A (Builtin.SmallTypes.nextOf ↥it) Q E s:=by
 cases b with
 | true=>exact L2.gx_nextOf_tup p q hx hQ
 | false=>exact wpAny_nextOf_list_item p q hx hQ
def ue {b:Bool} {i:Nat} {items:Array K'} {Q:K'->L5->Prop} (hh:A.handled=none) (p:bh b s.heap it l i) (q:cG b s.heap l items) (hx:items[i]?=none)
   (hE:∀h' e,Heap.ExtBut it s.heap h'->(∃o,h'.get? e=⇑o/\o.cls=.type "StopIteration")->E ↥e { s with heap:=h' }):wpAny 0x6 A (Builtin.SmallTypes.nextOf ↥it) Q E s:=by
 cases b with
 | true=>exact L2.gx_nextOf_tup_end hh p q hx hE
 | false=>exact wpAny_nextOf_list_end hh p q hx hE
def Gm {TI TO:L6}{x y b:K'}{Q:K'->L5->Prop} (D:ZipApart z TI TO i1 i2 l1 l2)
   (zZ:IsZip s.heap z TI TO .none) (zI:IsPair s.heap TI ↥i1 ↥i2) (zO:IsPair s.heap TO a b)
   (p1:bh b1 s.heap i1 l1 k1) (p2:bh b2 s.heap i2 l2 k2) (q1:cG b1 s.heap l1 xs) (q2:cG b2 s.heap l2 ys) (hx:xs[k1]?=⇑x) (hy:ys[k2]?=⇑y)
   (hQ:∀h',IsZip h' z TI TO (rawInt s.heap.objs.size)->IsPair h' TO x y->bh b1 h' i1 l1 (k1+1)->bh b2 h' i2 l2 (k2+1)->IsPair h' s.heap.objs.size x y->h'.objs.size=s.heap.objs.size+1 ->
     (∀c o,c≠z->c≠TO->c≠i1->c≠i2->s.heap.get? c=⇑o->h'.get? c=⇑o)->Q ↥s.heap.objs.size { s with heap:=h' }) :
   wpAny 0x6 A (Builtin.«zip.__next__» #[[↥z],[]]) (λfin s'=>∃v,fin=.done (.ret v)/\Q v s') E s:=by
 show wpAny _ _ (field ↥z 2 >>= _) _ _ _; refine HR (IR zZ rfl (x:=.bool false) rfl ?_); show wpAny _ _ (field ↥z 3 >>= _) _ _ _; refine HR (IR zZ rfl (x:=↥TI) rfl ?_); refine HR (JL zI rfl ?_); show wpAny _ _ (Builtin.SmallTypes.ownedTupleIsFree ↥z >>= _) _ _ _; refine HR ?_; unfold Builtin.SmallTypes.ownedTupleIsFree; refine HR (IR zZ rfl (x:=.none) rfl (Ha ?_)); simp only[if_true]; refine HR (KI ?_); refine HR (IR zZ rfl (x:=↥TO) rfl ?_);refine HR (Iu zZ 0x8 λh₁ zZ₁ hs₁=>?_); replace zZ₁:IsZip h₁ z TI TO .ellipsis:=zZ₁; refine HR ?_; simp only[List.zipIdx_cons,List.zipIdx_nil,KE,Kx];refine HR (HR (Kd ?_)); show wpAny _ _ (Builtin.SmallTypes.nextOf ↥i1 >>= _) _ _ _; refine HR (pF (p1.extBut hs₁.extBut D.i1z) (q1.extBut hs₁.extBut D.l1z) hx λh₂ h1₂ hs₂=>Ha ?_); have hTO₂:IsPair h₂ TO a b:=hs₂.extBut _ _ D.TOi1 (hs₁.extBut _ _ D.TOz zO); refine HR (JL hTO₂ rfl ?_); refine HR (KJ hTO₂ λh₃ hTO₃ hs₃=>?_); replace hTO₃:IsPair h₃ TO x b:=hTO₃; refine HR (wpAny_letGo (Ha ?_))
 refine HR (HR (Kd ?_)); show wpAny _ _ (Builtin.SmallTypes.nextOf ↥i2 >>= _) _ _ _; refine HR (pF (((p2.extBut hs₁.extBut D.i2z).extBut hs₂.extBut D.i12.symm).extBut hs₃.extBut D.TOi2.symm)
   (((q2.extBut hs₁.extBut D.l2z).extBut hs₂.extBut D.l2i1).extBut hs₃.extBut D.l2TO) hy λh₄ h2₄ hs₄=>Ha ?_)
 have hTO₄:IsPair h₄ TO x b:=hs₄.extBut _ _ D.TOi2 hTO₃; refine HR (JL hTO₄ rfl ?_); refine HR (KJ hTO₄ λh₅ hTO₅ hs₅=>?_); replace hTO₅:IsPair h₅ TO x y:=hTO₅; refine HR (wpAny_letGo (Ha (Ha ?_)));refine HR (JL hTO₅ rfl ?_); refine HR (wpAny_newTuple ?_); have hsz:h₅.objs.size=s.heap.objs.size:=(by rw[hs₅.1,hs₄.1,hs₃.1,hs₂.1,hs₁.1]); have hz₅:IsZip h₅ z TI TO .ellipsis:=hs₅.extBut _ _ D.TOz.symm (hs₄.extBut _ _ D.i2z.symm (hs₃.extBut _ _ D.TOz.symm (hs₂.extBut _ _ D.i1z.symm zZ₁))); have hk₅:∀c o,c≠z->c≠TO->c≠i1->c≠i2->s.heap.get? c=⇑o->h₅.get? c=⇑o:=λc o c1 c2 c3 c4 e =>
   hs₅.extBut _ _ c2 (hs₄.extBut _ _ c4 (hs₃.extBut _ _ c2 (hs₂.extBut _ _ c3 (hs₁.extBut _ _ c1 e))))
 have h1₅:bh b1 h₅ i1 l1 (k1+1):=((h1₂.extBut hs₃.extBut D.TOi1.symm).extBut hs₄.extBut D.i12).extBut hs₅.extBut D.TOi1.symm; have h2₅:bh b2 h₅ i2 l2 (k2+1):=h2₄.extBut hs₅.extBut D.TOi2.symm; have hzlt:z<h₅.objs.size:=Hm hz₅; have hTOlt:TO<h₅.objs.size:=Hm hTO₅; have hi1lt:i1<h₅.objs.size:=bh.lt h1₅; have hi2lt:i2<h₅.objs.size:=bh.lt h2₅; show wpAny _ _ (Builtin.SmallTypes.ownedTupleHandOut ↥z ↥h₅.objs.size >>= _) _ _ _; refine HR ?_; unfold Builtin.SmallTypes.ownedTupleHandOut; have hz₆:IsZip (h₅.push { cls:=.type "tuple",data:=.seq (List.toArray [x,y]) }) z TI TO .ellipsis:=HW _ hz₅
 refine HR (Iu hz₆ 0x8 λh₇ hz₇ hs₇=>?_); replace hz₇:IsZip h₇ z TI TO (rawInt h₅.objs.size):=hz₇; refine Iu hz₇ 0x8 λh₈ hz₈ hs₈=>?_; replace hz₈:IsZip h₈ z TI TO (rawInt h₅.objs.size):=hz₈; have up:∀c o,c≠z->h₅.get? c=⇑o->h₈.get? c=⇑o:=λc o c1 e=>hs₈.extBut _ _ c1 (hs₇.extBut _ _ c1 (HW _ e)); have hT₈:IsPair h₈ h₅.objs.size x y:=hs₈.extBut _ _ (JC hzlt) (hs₇.extBut _ _ (JC hzlt) (Hs _ rfl)); have hz8:h₈.objs.size=h₅.objs.size+1:=(by rw[hs₈.1,hs₇.1,Iy])
 rw[hsz] at hz₈ hT₈ hz8;refine Ha #[5,?_]; show Q ↥h₅.objs.size _;rw[hsz];exact hQ h₈ hz₈ (up _ _ D.TOz hTO₅) (h1₅.at λo e=>up _ o D.i1z e) (h2₅.at λo e=>up _ o D.i2z e) hT₈ hz8 λc o c1 c2 c3 c4 e=>up c o c1 (hk₅ c o c1 c2 c3 c4 e)
def zv {TI TO:L6}{b:K'}{Q:Fin->L5->Prop} (hh:A.handled=none) (D:ZipApart z TI TO i1 i2 l1 l2)
   (zZ:IsZip s.heap z TI TO .none) (zI:IsPair s.heap TI ↥i1 ↥i2) (zO:IsPair s.heap TO a b)
   (p1:bh b1 s.heap i1 l1 k1) (p2:bh b2 s.heap i2 l2 k2) (q1:cG b1 s.heap l1 xs) (q2:cG b2 s.heap l2 ys) (hend:xs[k1]?=none\/ys[k2]?=none)
   (hE:∀h' e,(∀c o,c≠z->c≠TO->c≠i1->c≠i2->s.heap.get? c=⇑o->h'.get? c=⇑o)->(∃o,h'.get? e=⇑o/\o.cls=.type "StopIteration")->E ↥e { s with heap:=h' }) :
   wpAny 0x6 A (Builtin.«zip.__next__» #[[↥z],[]]) Q E s:=by
 show wpAny _ _ (field ↥z 2 >>= _) _ _ _; refine HR (IR zZ rfl (x:=.bool false) rfl ?_); show wpAny _ _ (field ↥z 3 >>= _) _ _ _; refine HR (IR zZ rfl (x:=↥TI) rfl ?_); refine HR (JL zI rfl ?_); show wpAny _ _ (Builtin.SmallTypes.ownedTupleIsFree ↥z >>= _) _ _ _; refine HR ?_; unfold Builtin.SmallTypes.ownedTupleIsFree; refine HR (IR zZ rfl (x:=.none) rfl (Ha ?_)); simp only[if_true]; refine HR (KI ?_); refine HR (IR zZ rfl (x:=↥TO) rfl ?_);refine HR (Iu zZ 0x8 λh₁ zZ₁ hs₁=>?_); replace zZ₁:IsZip h₁ z TI TO .ellipsis:=zZ₁; refine HR ?_; simp only[List.zipIdx_cons,List.zipIdx_nil,KE,Kx]; refine HR (HR (Kd ?_)); show wpAny _ _ (Builtin.SmallTypes.nextOf ↥i1 >>= _) _ _ _;cases hx:xs[k1]? with
 | none =>
   refine HR (ue hh (p1.extBut hs₁.extBut D.i1z) (q1.extBut hs₁.extBut D.l1z) hx λh₂ e hs₂ he=>?_); let#[oe,hoe,hce]:=he; have hz₂:IsZip h₂ z TI TO .ellipsis:=hs₂ _ _ D.i1z.symm zZ₁; have hez:e≠z:=(λx=>by subst x; rw[hz₂] at hoe; cases hoe; simp at hce); refine Iu hz₂ 0x8 λh₃ _ hs₃=>hE h₃ e (λc o c1 _ c3 _ x=>hs₃.extBut _ _ c1 (hs₂ _ _ c3 (hs₁.extBut _ _ c1 x))) #[oe,hs₃.extBut _ _ hez hoe,hce]
 | some x =>
   have hy:ys[k2]?=none:=(by rcases hend with h|h; rw[hx] at h; cases h; exact h); refine HR (pF (p1.extBut hs₁.extBut D.i1z) (q1.extBut hs₁.extBut D.l1z) hx λh₂ h1₂ hs₂=>Ha ?_); have hTO₂:IsPair h₂ TO a b:=hs₂.extBut _ _ D.TOi1 (hs₁.extBut _ _ D.TOz zO); refine HR (JL hTO₂ rfl ?_); refine HR (KJ hTO₂ λh₃ hTO₃ hs₃=>?_); refine HR (wpAny_letGo (Ha ?_)); refine HR (HR (Kd ?_)); show wpAny _ _ (Builtin.SmallTypes.nextOf ↥i2 >>= _) _ _ _; refine HR (ue hh (((p2.extBut hs₁.extBut D.i2z).extBut hs₂.extBut D.i12.symm).extBut hs₃.extBut D.TOi2.symm)
     (((q2.extBut hs₁.extBut D.l2z).extBut hs₂.extBut D.l2i1).extBut hs₃.extBut D.l2TO) hy λh₄ e hs₄ he=>?_)
   let#[oe,hoe,hce]:=he; have hz₄:IsZip h₄ z TI TO .ellipsis:=hs₄ _ _ D.i2z.symm (hs₃.extBut _ _ D.TOz.symm (hs₂.extBut _ _ D.i1z.symm zZ₁)); have hez:e≠z:=(λx=>by subst x; rw[hz₄] at hoe; cases hoe; simp at hce); refine Iu hz₄ 0x8 λh₅ _ hs₅=>hE h₅ e (λc o c1 c2 c3 c4 x=>hs₅.extBut _ _ c1 (hs₄ _ _ c4 (hs₃.extBut _ _ c2 (hs₂.extBut _ _ c3 (hs₁.extBut _ _ c1 x))))) #[oe,hs₅.extBut _ _ hez hoe,hce]
def AI {TI TO:L6}{x y b:K'}{Q:Hl K'->L5->Prop} (D:ZipApart z TI TO i1 i2 l1 l2)
   (zZ:IsZip s.heap z TI TO .none) (zI:IsPair s.heap TI ↥i1 ↥i2) (zO:IsPair s.heap TO a b)
   (p1:bh b1 s.heap i1 l1 k1) (p2:bh b2 s.heap i2 l2 k2) (q1:cG b1 s.heap l1 xs) (q2:cG b2 s.heap l2 ys) (hx:xs[k1]?=⇑x) (hy:ys[k2]?=⇑y)
   (hQ:∀h',IsZip h' z TI TO (rawInt s.heap.objs.size)->IsPair h' TO x y->bh b1 h' i1 l1 (k1+1)->bh b2 h' i2 l2 (k2+1)->IsPair h' s.heap.objs.size x y->h'.objs.size=s.heap.objs.size+1 ->
     (∀c o,c≠z->c≠TO->c≠i1->c≠i2->s.heap.get? c=⇑o->h'.get? c=⇑o)->Q ⇑↥s.heap.objs.size { s with heap:=h' }) :
   wpAny 0x6 A (pyNext ↥z) Q E s:=by
 have hT:s.TypeIs ↥z "zip":=#[_,zZ,rfl]; unfold pyNext;exact HR (K7 (wpAny_callSpecial?_slot (name:=Str.ofString "__next__") hT KL
   (Ix KL hT F.entry_zip_next
     (Gm D zZ zI zO p1 p2 q1 q2 hx hy λh' a1 a2 a3 a4 a5 a6 a7=>Ha (hQ h' a1 a2 a3 a4 a5 a6 a7)) (F.args_zip_next_1 _))))
def Fe {TI TO:L6}{b:K'}{Q:Hl K'->L5->Prop} (hh:A.handled=none) (D:ZipApart z TI TO i1 i2 l1 l2)
   (zZ:IsZip s.heap z TI TO .none) (zI:IsPair s.heap TI ↥i1 ↥i2) (zO:IsPair s.heap TO a b)
   (p1:bh b1 s.heap i1 l1 k1) (p2:bh b2 s.heap i2 l2 k2) (q1:cG b1 s.heap l1 xs) (q2:cG b2 s.heap l2 ys) (hend:xs[k1]?=none\/ys[k2]?=none)
   (hQ:∀h',(∀c o,c≠z->c≠TO->c≠i1->c≠i2->s.heap.get? c=⇑o->h'.get? c=⇑o)->Q none { s with heap:=h' }):wpAny 0x6 A (pyNext ↥z) Q E s:=by
 have hT:s.TypeIs ↥z "zip":=#[_,zZ,rfl]; unfold pyNext; refine HR (K7 (wpAny_callSpecial?_slot (name:=Str.ofString "__next__") hT KL
   (Ix KL hT F.entry_zip_next (zv hh D zZ zI zO p1 p2 q1 q2 hend λh' e hk he=>?_) (F.args_zip_next_1 _))))
 let#[o,ho,hc]:=he; refine HR (wpAny_isInstance (T:="StopIteration") (b:=true) #[o,ho,hc] isSubtype_stop ?_);exact Ha (hQ _ hk)
end
abbrev dX (b:Bool) (l:L6):Obj:={ cls:=.type (match b with|true=>"tuple_iterator" | false=>"list_iterator"),data:=.fields (List.toArray [↥l,.int 0 0]) }
def BQ (b1 b2:Bool) (l1 l2:L6) (xs ys:Array K') :
   Meets (Builtin.«zip.__new__» #[[.type "zip",↥l1,↥l2],[]]) (λ_ R s=>cG b1 s.heap l1 xs/\cG b2 s.heap l2 ys /\
     R (.ok (.ret ↥((((s.heap.push (dX b1 l1)).push (dX b2 l2)).push { cls:=.type "tuple",data:=.seq (List.toArray [↥s.heap.objs.size,↥(s.heap.push (dX b1 l1)).objs.size]) }).push { cls:=.type "tuple",data:=.seq (List.toArray [.none,.none]) }).objs.size))
       { s with heap:=(((((s.heap.push (dX b1 l1)).push (dX b2 l2)).push { cls:=.type "tuple",data:=.seq (List.toArray [↥s.heap.objs.size,↥(s.heap.push (dX b1 l1)).objs.size]) }).push { cls:=.type "tuple",data:=.seq (List.toArray [.none,.none]) }).push
         { cls:=.type "zip",data:=.fields (List.toArray [.none,.bool false,.bool false,↥((s.heap.push (dX b1 l1)).push (dX b2 l2)).objs.size,↥(((s.heap.push (dX b1 l1)).push (dX b2 l2)).push { cls:=.type "tuple",data:=.seq (List.toArray [↥s.heap.objs.size,↥(s.heap.push (dX b1 l1)).objs.size]) }).objs.size]) }) }) :=
 .of_wp λprog w A R s h=>by
   let#[hp,g,d,tk,os]:=s; let#[q1,q2,h]:=h;have hsub:=sub_zip;have q2':cG b2 (hp.push (dX b1 l1)) l2 ys:=q2.at λo e=>HW _ e;cases b1 with
   | true =>
     have hL1:Heap.IsTuple (Shared.heap ⟨hp,g,d,tk,os⟩) l1 xs:=q1;cases b2 with
     | true =>
       have hL2:Heap.IsTuple (Shared.heap ⟨hp.push { cls:=.type "tuple_iterator",data:=.fields (List.toArray [↥l1,.int 0 0]) },g,d,tk,os⟩) l2 ys:=q2'
       wp_walk using J7 hL1,J7 hL2; show#[5,h]
     | false =>
       have hL2:Heap.IsList (Shared.heap ⟨hp.push { cls:=.type "tuple_iterator",data:=.fields (List.toArray [↥l1,.int 0 0]) },g,d,tk,os⟩) l2 ys:=q2'
       wp_walk using J7 hL1,J0 hL2; show#[5,h]
   | false =>
     have hL1:Heap.IsList (Shared.heap ⟨hp,g,d,tk,os⟩) l1 xs:=q1;cases b2 with
     | true =>
       have hL2:Heap.IsTuple (Shared.heap ⟨hp.push { cls:=.type "list_iterator",data:=.fields (List.toArray [↥l1,.int 0 0]) },g,d,tk,os⟩) l2 ys:=q2'
       wp_walk using J0 hL1,J7 hL2; show#[5,h]
     | false =>
       have hL2:Heap.IsList (Shared.heap ⟨hp.push { cls:=.type "list_iterator",data:=.fields (List.toArray [↥l1,.int 0 0]) },g,d,tk,os⟩) l2 ys:=q2'
       wp_walk using J0 hL1,J0 hL2; show#[5,h]
section
variable {prog:Program} {w:World} {A:Around} {E:K'->L5->Prop} {s:L5}
def wR {b:Bool} (e:h.get? it=⇑(dX b l)):bh b h it l 0:=by cases b <;> show#[_,e,7]
def E7 {Q:K'->L5->Prop} (q1:cG b1 s.heap l1 xs) (q2:cG b2 s.heap l2 ys)
   (h:∀h' (n:Nat),n=s.heap.objs.size->IsZip h' (n+4) (n+2) (n+3) .none->IsPair h' (n+2) ↥n ↥(n+1)->IsPair h' (n+3) .none .none->bh b1 h' n l1 0->bh b2 h' (n+1) l2 0 ->
     (∀c o,s.heap.get? c=⇑o->h'.get? c=⇑o)->Q ↥(n+4) { s with heap:=h' }) :
   wpAny 0x6 A (call (.type "zip") [↥l1,↥l2]) Q E s:=by
 refine callType_new F.called_zip #[] (F.typeCall_zip_2 _ _) (F.newCall_zip_2 _ _) (λobj=>F.args_object_init_3 obj _ _) F.entry_zip_new (BQ b1 b2 l1 l2 xs ys) #[q1,q2,?_];generalize ho1:dX b1 l1=o1;generalize ho2:dX b2 l2=o2;have z1:(s.heap.push o1).objs.size=s.heap.objs.size+1:=Iy ..;have z2:((s.heap.push o1).push o2).objs.size=s.heap.objs.size+2:=by rw[Iy,z1]
 rw[z1,z2];generalize hT1:({ cls:=.type "tuple",data:=.seq (List.toArray [↥s.heap.objs.size,↥(s.heap.objs.size+1)]) }:Obj)=t1;generalize hT2:({ cls:=.type "tuple",data:=.seq (List.toArray [.none,.none]) }:Obj)=t2;have z3:(((s.heap.push o1).push o2).push t1).objs.size=s.heap.objs.size+3:=by rw[Iy,z2]
 have z4:((((s.heap.push o1).push o2).push t1).push t2).objs.size=s.heap.objs.size+4:=by rw[Iy,z3]
 rw[z3,z4];generalize hZ:({ cls:=.type "zip",data:=.fields (List.toArray [.none,.bool false,.bool false,↥(s.heap.objs.size+2),↥(s.heap.objs.size+3)]) }:Obj)=tz;have g5:=Hs ((((s.heap.push o1).push o2).push t1).push t2) (o:=tz) (by rw[<- hZ]; rfl);have g4:=HW tz (Hs (((s.heap.push o1).push o2).push t1) (o:=t2) (by rw[<- hT2]; rfl));have g3:=HW tz (HW t2 (Hs ((s.heap.push o1).push o2) (o:=t1) (by rw[<- hT1]; rfl)));have g2:=HW tz (HW t2 (HW t1 (Hs (s.heap.push o1) (o:=o2) (by rw[<- ho2]; rfl))));have g1:=HW tz (HW t2 (HW t1 (HW o2 (Hs s.heap (o:=o1) (by rw[<- ho1]; rfl)))));rw[z4] at g5;rw[z3] at g4;rw[z2] at g3;rw[z1] at g2;subst hZ hT1 hT2 ho1 ho2;show#[#[_,g5,rfl],h _ s.heap.objs.size rfl g5 g3 g4 (wR g1) (wR g2) λc o x =>
   HW _ (HW _ (HW _ (HW _ (HW _ x))))]
end
end PySem
namespace L2
open PySem PySem.Spec PyProof.Rows
abbrev eC (b:Bool) (K:L7) (H:Hp) (l:L6) (xs:List V):Prop:=match b with|true=>aG K H l xs|false=>aE K H l xs
variable {X:Cx} {H:Hp} {xs:List V}
def Inv.sqv {pins:List (L6×Obj)} {σ:St} {s:L5} {b:Bool} {l:L6} (I:Inv X pins σ H s) (h:eC b X.K H l xs):∃its:List K',aU xs its/\cG b s.heap l its.toArray:=by
 cases b with
 | true=>let#[its,r,p,_]:=I.tuple h; show#[its,r,p]
 | false=>let#[its,r,p,_]:=I.list h; show#[its,r,p.isList]
def Inv.sqv_inj {pins:List (L6×Obj)} {σ:St} {s:L5} {b:Bool} {l:L6} {ys:List V}(I:Inv X pins σ H s) (h:eC b X.K H l xs) (h':eC b X.K H l ys):xs=ys:=by
 cases b with
 | true=>exact I.tuple_inj h h'
 | false=>exact I.list_inj h h'
def cG.lt {b:Bool} {h:Heap} {l:L6} {xs:Array K'} (p:cG b h l xs):l<h.objs.size:=by cases b <;> (let#[o,ho,r]:=p; exact Hm ho)
abbrev ke (K:L7) (b1 b2:Bool) (l1 l2:L6):It :=
 #[λi H=>∃xs ys x y,eC b1 K H l1 xs/\eC b2 K H l2 ys/\xs[i]?=⇑x/\ys[i]?=⇑y,
  λi H v H'=>∃b,v=↥b/\H b=none/\∀xs ys x y,eC b1 K H l1 xs->eC b2 K H l2 ys->xs[i]?=⇑x->ys[i]?=⇑y->H'=upd H b (.tup [x,y]),
  λi H=>∃xs ys,eC b1 K H l1 xs/\eC b2 K H l2 ys/\(xs[i]?=none\/ys[i]?=none)]
variable {K:L7}
def BV {P:Program} {w:World} {elts:List Expr} {k:Nat} {pos:Pos} (b1 b2:Bool) (z TI TO i1 i2 l1 l2:L6) (D:ZipApart z TI TO i1 i2 l1 l2) :
   Turn P w K (.Tuple elts k pos) (ke K b1 b2 l1 l2) [z,TI,TO,i1,i2] z (λi h=>IsZip h z TI TO .none/\IsPair h TI ↥i1 ↥i2/\(∃a b,IsPair h TO a b)/\bh b1 h i1 l1 i/\bh b2 h i2 l2 i) where
 mem:=by simp
 obj:=λi h st b hb=>by
   obtain⟨hz,hTI,⟨a,c,hTO⟩,h1,h2⟩:=st;simp only[Hh,ID,or_false] at hb;rcases hb with rfl|rfl|rfl|rfl|rfl
   . show#[_,hz,λv z=>by cases (show Data.fields _=Data.cell v from z)]
   . show#[_,hTI,λv z=>by cases (show Data.seq _ _=Data.cell v from z)]
   . show#[_,hTO,λv z=>by cases (show Data.seq _ _=Data.cell v from z)]
   . cases b1 <;> (let#[o,ho,hc,hd]:=h1; show#[o,ho,λv z=>by rw[hd] at z; cases z])
   . cases b2 <;> (let#[o,ho,hc,hd]:=h2; show#[o,ho,λv z=>by rw[hd] at z; cases z])
 keep:=λi h h' st kk=>by obtain⟨hz,hTI,⟨a,c,hTO⟩,h1,h2⟩:=st;show#[kk _ 0x8 _ hz,kk _ 0x8 _ hTI,#[a,c,kk _ 0x8 _ hTO],h1.at λo e=>kk _ 0x8 o e,h2.at λo e=>kk _ 0x8 o e]
 item:=by
   intro X hP hw hK hc i pins s σ H E I hf st hg;subst hP hw hK;obtain⟨hz,hTI,⟨oa,ob,hTO⟩,h1,h2⟩:=st;let#[xs,ys,x,y,e1,e2,hx,hy]:=hg;let#[is1,r1,p1]:=I.sqv e1;let#[is2,r2,p2]:=I.sqv e2;let#[u,hu,ru]:=r1.get hx;let#[v,hv,rv]:=r2.get hy;refine AI D hz hTI hTO h1 h2 p1 p2 ↑hu ↑hv λh' a1 a2 a3 a4 a5 a6 hk=>?_;show#[5,wpAny_letOwnedTupleGo_zip a1 λh3 hz3 hs3=>?_];have hs3:Heap.SameBut z h' h3:=hs3;have hzlt:z<s.heap.objs.size:=Hm hz;have hfr:H s.heap.objs.size=none:=I.hok.fresh (HY _);have hnS:s.heap.objs.size≠z:=JC hzlt;have hT3:IsPair h3 s.heap.objs.size u v:=(hs3.2 _ hnS)\a5;show#[↥s.heap.objs.size,upd H s.heap.objs.size (.tup [x,y]),I.turnLaid (t':=s.toks) (ch:=[z,TI,TO,i1,i2]) (λb o hb q=>?_) hf (HY _) ?_,rfl,#[s.heap.objs.size,rfl,hfr,λxs' ys' x' y' q1 q2 hx' hy'=>?_],#[hz3,?_,#[u,v,?_],?_,?_],λb hb=>?_]
   . have n1:b≠z:=λzz=>hb (by simp [zz]);have n3:b≠TO:=λzz=>hb (by simp [zz]);have n4:b≠i1:=λzz=>hb (by simp [zz]);have n5:b≠i2:=λzz=>hb (by simp [zz]);exact(hs3.2 b n1).trans (hk b o n1 n3 n4 n5 q)
   . show#[by show 2<=sizeLine; decide,[u,v],.cons ru (.cons rv .nil),#[_,hT3,13]]
   . have t1:=I.sqv_inj q1 e1;have t2:=I.sqv_inj q2 e2;subst t1 t2;rw[hx] at hx';rw[hy] at hy';cases hx';cases hy';rfl
   . exact(hs3.2 _ D.TIz).trans (hk _ _ D.TIz D.TITO D.TIi1 D.TIi2 hTI)
   . exact(hs3.2 _ D.TOz).trans a2
   . exact a3.at λo e=>(hs3.2 _ D.i1z)\e
   . exact a4.at λo e=>(hs3.2 _ D.i2z)\e
   . have hb0:=(hf b hb).1;rw[aM]
     . exact hb0
     . intro zz;subst zz;simp only[Hh,ID,or_false] at hb;rcases hb with e|e|e|e|e
       . exact hnS e
       . exact absurd (Hm hTI) (by rw[<- e]; exact Ia _)
       . exact absurd (Hm hTO) (by rw[<- e]; exact Ia _)
       . exact absurd h1.lt (by rw[<- e]; exact Ia _)
       . exact absurd h2.lt (by rw[<- e]; exact Ia _)
 done:=by
   intro X hP hw hK hc i pins s σ H E I hf st hg;subst hP hw hK;obtain⟨hz,hTI,⟨oa,ob,hTO⟩,h1,h2⟩:=st;let#[xs,ys,e1,e2,hend]:=hg;let#[is1,r1,p1]:=I.sqv e1;let#[is2,r2,p2]:=I.sqv e2;refine Fe (I.ok.hd hc) D hz hTI hTO h1 h2 p1 p2 ?_ λh' hk=>#[rfl,?_]
   . rcases hend with h|h
     . left; have:=r1.none_of h; simpa using this
     . right; have:=r2.none_of h; simpa using this
   . exact I.turnedL (t':=s.toks) (ch:=[z,TI,TO,i1,i2]) (λb o hb q=>hk b o (λzz=>hb (by simp [zz])) (λzz=>hb (by simp [zz])) (λzz=>hb (by simp [zz])) (λzz=>hb (by simp [zz])) q) hf
 self:=λ_ _ _ _ _ st h=>wpAny_pyIter_zip st.1 h
section
variable {X:Cx}
abbrev A6 (b1 b2:Bool) (K:L7) (ta:TA):TI:=λσ H R=>ta σ H λvs H1=>∃l1 l2,vs=[↥l1,↥l2]/\(∃xs,eC b1 K H1 l1 xs)/\(∃ys,eC b2 K H1 l2 ys)/\R (ke K b1 b2 l1 l2) H1
def pJ (b1 b2:Bool) {a b:Expr} {ta:TA} {p pos tpos:Pos} {elts:List Expr} {k:Nat} (hg:Gl X "zip") (hm:X.mg "zip"=none) (ha:PA X [a,b] ta) (hs:starEach [a,b] X.env=(false,eval a X.env)::starEach [b] X.env:=by rfl) (hs2:(backTo pos (starEach [b] X.env)).any (·.1)=false:=by rfl) :
   PI X (.Tuple elts k tpos) (.Call (.Name "zip" p) [a,b] [] pos) (A6 b1 b2 X.K ta):=by
 intro pins s σ H R I h;refine Call_ (fk I hg hm Cd (Ie (aQ (ha pos pins s σ H _ I h) λus s1 z150_=>?_) hs hs2));let#[vs,H1,I1,r1,q1]:=z150_;obtain⟨l1,l2,e,⟨xs,hx⟩,⟨ys,hy⟩,q⟩:=q1;subst e;cases r1 with
 | cons r rr =>
   cases rr with
   | cons r' rr =>
     cases rr;cases r;cases r';let#[is1,v1,p1]:=I1.sqv hx;let#[is2,v2,p2]:=I1.sqv hy;refine E7 p1 p2 λh' n hn hz hTI hTO h1 h2 hk=>?_;subst hn;refine wpAny_pyIter_zip hz ?_;show#[s1.heap.objs.size+4,[s1.heap.objs.size+4,s1.heap.objs.size+2,s1.heap.objs.size+3,s1.heap.objs.size,s1.heap.objs.size+1],4,H1,rfl,I1.kept (t':=s1.toks) hk,BV b1 b2 _ _ _ _ _ l1 l2 (zipApart_new (cG.lt p1) (cG.lt p2)),#[hz,hTI,#[4,hTO],h1,h2],λb hb=>?_,q];have hb':s1.heap.objs.size<=b:=by simp only[Hh,ID,or_false] at hb;rcases hb with e|e|e|e|e <;> rw[e] <;> first|exact HY _|exact Jq _ _
     exact I1.fpOk hb' (I1.hok.fresh hb')
def qY {b1 b2:Bool} {l1 l2:L6} {ys:List V}{g:TG} {tb:TS} {D:c6} {σ:St} (Pv:Nat->St->Hp->Prop) (h0:Pv 0 σ H) (hl:∀i σ H,i<=min xs.length ys.length->Pv i σ H->eC b1 K H l1 xs/\eC b2 K H l2 ys)
   (hs:∀i x y σ H b,xs[i]?=⇑x->ys[i]?=⇑y->Pv i σ H->H b=none->g ↥b σ (upd H b (.tup [x,y])) λσ2 H2=>tb { D with nx:=Pv (i+1),ct:=Pv (i+1),bk:=D.nx } σ2 H2) (hd:∀σ H,Pv (min xs.length ys.length) σ H->D.nx σ H) :
   ∃W:Nat->Nat->St->Hp->Prop,(∃m,W 0 m σ H)/\∀i m σ H,W i m σ H->((ke K b1 b2 l1 l2).stop i H/\D.nx σ H)\/((ke K b1 b2 l1 l2).go i H/\∃N:St->Hp->Prop,(∀σ' H',N σ' H'->∃m',m'<m/\W (i+1) m' σ' H')/\∀x H',(ke K b1 b2 l1 l2).yld i H x H'->g x σ H' λσ2 H2=>tb { D with nx:=N,ct:=N,bk:=D.nx } σ2 H2):=by
 show#[λi m σ H=>m=min xs.length ys.length - i/\i<=min xs.length ys.length/\Pv i σ H,#[min xs.length ys.length,by simp,Hw _,h0],?_];rintro i m σ H ⟨rfl,hi,p⟩;let#[q1,q2]:=hl i σ H hi p;by_cases hlt:i<min xs.length ys.length
 . have l1':i<xs.length:=by lia
   have l2':i<ys.length:=by lia
   refine .inr #[#[xs,ys,xs[i],ys[i],q1,q2,by simp [l1'],by simp [l2']],Pv (i+1),λσ' H' p'=>#[min xs.length ys.length - (i+1),∅,rfl,hlt,p'],λx H' y=>?_];let#[b,rfl,hb,y]:=y;rw[y xs ys xs[i] ys[i] q1 q2 (by simp [l1']) (by simp [l2'])];exact hs i xs[i] ys[i] σ H b (by simp [l1']) (by simp [l2']) p hb
 . have e:i=min xs.length ys.length:=by lia
   subst e;refine .inl #[#[xs,ys,q1,q2,?_],hd σ H p];rcases Nat.le_total xs.length ys.length with h|h
   . left; rw[KM h]; exact Jm (HY _)
   . right; rw[Kk h]; exact Jm (HY _)
end
structure ClsOk (K:W.Frag) (mg:Str->Option Value) (name:Str) (C:Addr):Prop where
 cl:Cls K C
 g:mg name=⇑↥C
structure MetOk (K:W.Frag) (C:Addr) (m qual:Str) (st:Stmt) (ps:List Str) (f:Addr) (fd:FuncData):Prop where
 F:Fun K m qual st f fd
 b:dC K fd ps []
 m:Meth K C m f
structure IniOk (K:W.Frag) (C:Addr) (qual:Str) (st:Stmt) (ps:List Str) (f:Addr) (fd:FuncData):Prop where
 F:Fun K "__init__" qual st f fd
 b:dC K fd ps []
 M:Mk K C f
section
variable {X:Cx} {k:Nat} {C f:L6} {fd:FuncData} {ps:List Str} {sp:Sp} {x m qual:Str} {st:Stmt} {p pos apos:Pos} {o e:Expr} {es:List Expr} {ta:TE} {t:TA}
def pZ (Cc:ClsOk X.K X.mg x C) (D:IniOk X.K C qual st ps f fd) (G:FnOk X.prog X.w X.K X.mg X.base CX0 k f fd ps sp) (hr:Room (k+1) X.A) (ha:PA X (e::es) t) (hg:Gl X x:=by rfl)
   (hdb:(x==("__debug__":Str))=false:=by decide) (he:starEach (e::es) X.env=(false,eval e X.env)::starEach es X.env:=by rfl) (hpl:(backTo pos (starEach es X.env)).any (·.1)=false:=by rfl) :
   PE X (.Call (.Name x p) (e::es) [] pos) (vS C sp [] E0 t):=Ek D.M G hr hg Cc.g D.b .nil bR ha hdb he hpl
def cL {C:L6} {m qual:Str} {st:Stmt} {ps:List Str} {f:L6} {oc:K'} {od an:Hl L6} {osl:Array (Hl K')} {kV doc pm cdv ct:K'}
   (a:PySem.W.findIn K ↥C m=⇑⇑↥f) (i:PySem.W.isFn K ↥f=true) (l:K.lookup f=⇑#[oc,od,.func (PySem.W.fnOf m qual (dB st) (aP st) (aS st) .none kV doc pm an cdv ct),osl]) (c:PySem.W.codeIn K cdv qual=true) (k:PySem.W.keepIn K ↥f=true)
   (b:∀(kV doc pm:K') (an:Hl L6) (cdv ct:K') (us:List K'),us.length=ps.length->bindArgs (PySem.W.fnOf m qual (dB st) (aP st) (aS st) .none kV doc pm an cdv ct) #[us,[]]=pure (ps.zip us)) :
   MetOk K C m qual st ps f (PySem.W.fnOf m qual (dB st) (aP st) (aS st) .none kV doc pm an cdv ct) :=
 #[gn l c k,(gn l c k).binds b,#[a,i,k]]
def qu {C:L6} {qual:Str} {st:Stmt} {ps:List Str} {f:L6} {oc:K'} {od an:Hl L6} {osl:Array (Hl K')} {kV doc pm cdv ct:K'}
   (mk:PySem.W.makesIn K C=true) (kc:PySem.W.keepIn K ↥C=true) (a:PySem.W.findIn K ↥C "__init__"=⇑⇑↥f) (i:PySem.W.isFn K ↥f=true) (l:K.lookup f=⇑#[oc,od,.func (PySem.W.fnOf "__init__" qual (dB st) (aP st) (aS st) .none kV doc pm an cdv ct),osl]) (c:PySem.W.codeIn K cdv qual=true) (k:PySem.W.keepIn K ↥f=true)
   (b:∀(kV doc pm:K') (an:Hl L6) (cdv ct:K') (us:List K'),us.length=ps.length->bindArgs (PySem.W.fnOf "__init__" qual (dB st) (aP st) (aS st) .none kV doc pm an cdv ct) #[us,[]]=pure (ps.zip us)) :
   IniOk K C qual st ps f (PySem.W.fnOf "__init__" qual (dB st) (aP st) (aS st) .none kV doc pm an cdv ct) :=
 #[gn l c k,(gn l c k).binds b,#[mk,a,i,kc]]
end
def bY {A:Around} (h:A.units+64<cLine):A.units+1<cLine:=by lia
section
variable {prog:Program} {w:World} {A:Around} {E:K'->L5->Prop} {s:L5}
open HT in
def C0 {t sl:L6} {items:Array K'} {vl vu:K'} {lo hi:Hl Int} {Q:K'->L5->Prop} (ht:IsTup s.heap t items) (hs:s.heap.IsSliceOf sl vl vu .none) (pl:IsPart vl lo) (pu:IsPart vu hi)
   (hw:sIx items.size 0 lo=0/\sIx items.size items.size hi=items.size) (h:Q ↥t s):wpAny 0x6 A (getItem ↥t ↥sl) Q E s:=by
 let#[os,hos,hcs,hds]:=id hs;have tS:s.TypeIs ↥sl "slice":=#[os,hos,hcs]
 unfold getItem; try with_reducible refine IW ?_
 first|refine HR (Ha ?_)|skip
 refine HR (Kf ht.typeIs #[] ?_); refine HR (wpAny_callSpecial?_slot (name:=Str.ofString "__getitem__") ht.typeIs Im (Ix Im ht.typeIs entry_tuple_getitem ?_ (args_tuple_getitem _ _)));show wpAny _ _ (Builtin.Tuple.tupleItemsOf ↥t >>= _) _ _ s; refine HR (tupleItemsOf_ ht ?_); refine HR (Jl tS ?_); rw[He #[]]; refine HR (w4 hs pl pu ?_);have yes:(((sIx items.size 0 lo:Nat):Int)==0&&(1:Int)==1&&(sIx items.size items.size hi - sIx items.size 0 lo)==items.size)=true:=by rw[hw.1,hw.2];simp
 show wpAny _ _ (if(((sIx items.size 0 lo:Nat):Int)==0&&(1:Int)==1&&(sIx items.size items.size hi - sIx items.size 0 lo)==items.size)=true then _ else _) _ _ s; rw[He yes];show wpAny _ _ (Builtin.Tuple.tupleIsExact ↥t >>= _) _ _ s;unfold Builtin.Tuple.tupleIsExact;refine HR (HR (Jl ht.typeIs (Ha ?_)));rw[He #[]];exact HR (KI (HR (Ha (Ha #[5,Ha h]))))
end
abbrev tZ (K:L7):V->Hl Int->Hl Int->Hp->VK->Prop:=λx lo hi H Q=>∃a xs,x=↥a/\aG K H a xs /\
 (HT.sIx xs.length 0 lo=0/\HT.sIx xs.length xs.length hi=xs.length)/\Q ↥a H
def Cq :fW X (tZ X.K):=by
 intro pins s σ H x v vl vu lo hi sl Q I rx hs pl pu h;let#[a,xs,rfl,hx,hw,q]:=h;cases rx;let#[its,r,ht,hz]:=I.tuple hx;have hlen:its.toArray.size=xs.length:=by rw[Hn]; exact r.length.symm
 show#["tuple",_,Im.lookup,ht.typeIs,C0 ht hs pl pu (by rw[hlen]; exact hw) #[↥a,H,I,rfl,q]]
abbrev vP (K:L7):V->Hl Int->Hl Int->Hp->VK->Prop:=λx lo hi H Q=>uo K x lo hi H Q\/tZ K x lo hi H Q
def uZ :fW X (vP X.K):=Go.or Cq
def rq {Q:VK} {a:L6} {lo hi:Hl Int} (h:aG K H a xs) (q:∀p H',aB H H'->aG K H' p (dM xs lo hi)->Q ↥p H'):vP K ↥a lo hi H Q:=by
 by_cases hw:HT.sIx xs.length 0 lo=0/\HT.sIx xs.length xs.length hi=xs.length
 . refine .inr #[a,xs,rfl,h,hw,q a H (aB.refl _) ?_];have:dM xs lo hi=xs:=by unfold dM;rw[hw.1,hw.2,Kw,Nat.sub_zero,IP]
   rw[this];exact h
 . exact .inl #[a,xs,rfl,h,hw,λp hp=>q p _ (aB.new hp) (aG.of aI)]
end L2
namespace K12
open PySem L2
abbrev step (acc:List Str) (s:Str):List Str:=if s∈acc then acc else acc++[s]
abbrev onceL (ss:List Str):List Str:=ss.foldl step []
abbrev dY (as:List V):List Str:=as.filterMap λv=>match v with | .str s=>⇑s|_=>none
def E1 (a b:List V):dY (a++b)=dY a++dY b:=List.filterMap_append ..
def CZ (i:Int):dY [.int i]=[]:=rfl
def CO (acc:List Str) (s:Str):∀x∈acc,x∈step acc s:=λx hx=>by
 unfold step;split
 . exact hx
 . exact Ik _ hx
def DG (acc:List Str) (s:Str):s∈step acc s:=by
 unfold step;split
 . assumption
 . exact Hz _ 0x8
def vN:∀(ss acc:List Str),∀x∈acc,x∈ss.foldl step acc
 | [],acc,x,hx=>hx
 | s::ss,acc,x,hx=>vN ss _ x (CO acc s x hx)
def sj:∀(ss acc:List Str),∀x∈ss,x∈ss.foldl step acc
 | s::ss,acc,x,hx=>by
   rcases Hh.mp hx with e|e
   . subst e;exact vN ss _ _ (DG acc _)
   . exact sj ss _ x e
def vE:∀(B:List Str) (acc C:List Str),(B.foldl step C).foldl step acc=B.foldl step (C.foldl step acc)
 | [],acc,C=>rfl
 | s::B,acc,C=>by
   rw[Jf,vE B acc (step C s),Jf];congr 1;unfold step;by_cases h:s∈C
   . rw[He h];have h2:s∈C.foldl step acc:=sj C acc s h;have h2':s∈List.foldl (λacc s=>if s∈acc then acc else acc++[s]) acc C:=h2;rw[He h2']
   . rw[HX h,IX];rfl
def CH (A B C:List Str):onceL (A++onceL B++C)=onceL (A++B++C):=by unfold onceL;rw[IX,IX,IX,IX];have e:=vE B (A.foldl step []) [];rw[e];rfl
def BZ (acc:List Str) (s:Str):(step acc s).length<=acc.length+1:=by
 unfold step;split
 . lia
 . simp
def Ej (ss:List Str):(onceL ss).length<=ss.length:=by
 have key:∀(ss acc:List Str),(ss.foldl step acc).length<=acc.length+ss.length:=by
   intro ss
   induction ss with
   | nil=>intro acc; simp
   | cons s ss ih =>
     intro acc;have h1:=ih (step acc s);have h2:=BZ acc s;rw[Jf];simp only[II]
     lia
 have:=key ss [];unfold onceL;simpa using this
abbrev cS (ss:List Str):List (aF×V):=ss.map λs=>(Sum.inr s,V.bl true)
def Cz (acc:List Str) (s:Str):putK (cS acc) (Sum.inr s) (.bl true)=cS (step acc s):=by
 unfold putK step;have e:((cS acc).any λkv=>decide (kv.1=(Sum.inr s:aF)))=decide (s∈acc):=by
   unfold cS;rw[List.any_map];rw[JD,Kl];simp only[Function.comp,JX];constructor
   . rintro ⟨x,hx,h⟩;have:x=s:=Sum.inr.inj h;rw[<- this];exact hx
   . intro h;show#[s,h,rfl]
 rw[e];by_cases h:s∈acc
 . rw[Hf h,He rfl,He h];unfold cS;rw[Iq];apply KQ;intro x _;show(if(Sum.inr x:aF)=Sum.inr s then((Sum.inr x:aF),V.bl true) else(Sum.inr x,V.bl true))=_;split <;> rfl
 . rw[IU h,HX #[],HX h];unfold cS;rw[Hq];rfl
def um:∀(ss acc:List Str),(cS ss).foldl 0x9 (cS acc)=cS (ss.foldl step acc)
 | [],acc=>rfl
 | s::ss,acc=>by show(cS ss).foldl _ (putK (cS acc) (Sum.inr s) (.bl true))=_;rw[Cz];exact um ss (step acc s)
def zo (ss:List Str):(cS ss).foldl 0x9 []=cS (onceL ss):=um ss []
def Gc (ss:List Str):((cS ss).map λkv=>kV kv.1)=ss.map V.str:=by unfold cS;rw[Iq];rfl
def Ap {K:L7} {H:Hp} {a q:L6} {xs l l':List V} (h:aG K H a xs) (hq:H q=⇑(.lst l)):aG K (upd H q (.lst l')) a xs:=by
 rcases h with(h|⟨o,h⟩)|h
 . exact .inl (.inl (by rw[aM (iD h hq (by intro z; cases z))]; exact h))
 . exact .inl (.inr #[o,by rw[aM (iD h hq (by intro z; cases z))]; exact h])
 . exact .inr h
abbrev Nm (s:Str):Prop:=s.length<=1000/\PyData.strOk s=true
end K12
namespace K12
open PySem L2 PySem.W PyProof.Rows
inductive RowS (K:W.Frag) (H:Hp):List V->Option Str->List V->Prop
 | copy (x:Str) (a:V):RowS K H [.str "copy",.str x,a] ⇑x [a]
 | op (x s:Str) (a b:V):RowS K H [.str "op",.str x,.str s,a,b] ⇑x [a,b]
 | new (x:Str):RowS K H [.str "new",.str x] ⇑x []
 | get (x:Str) (a:V) (f:Str):RowS K H [.str "get",.str x,a,.str f] ⇑x [a]
 | put (a:V) (f:Str) (b:V):RowS K H [.str "put",a,.str f,b] none [a,b]
 | call (x f:Str) (p:Addr) (as:List V):aG K H p as->RowS K H [.str "call",.str x,.str f,↥p] ⇑x as
 | out (a:V):RowS K H [.str "out",a] none [a]
 | back (a:V):RowS K H [.str "back",a] none [a]
 | ifs (a:V):RowS K H [.str "if",a] none [a]
 | whl (a:V):RowS K H [.str "while",a] none [a]
 | els:RowS K H [.str "else"] none []
 | fin:RowS K H [.str "end"] none []
def RowS.mono {K:L7} {H H':Hp} {xs:List V} {g:Hl Str} {as:List V} (h:RowS K H xs g as) (e:aB H H'):RowS K H' xs g as:=by
 cases h with
 | call x f p as hp=>exact .call x f p as (e<*hp)
 | copy x a=>exact .copy x a
 | op x s a b=>exact .op x s a b
 | new x=>exact .new x
 | get x a f=>exact .get x a f
 | put a f b=>exact .put a f b
 | out a=>exact .out a
 | back a=>exact .back a
 | ifs a=>exact .ifs a
 | whl a=>exact .whl a
 | els=>exact .els
 | fin=>exact .fin
abbrev tabl:List (Str×List V):=[("copy",[.int 2]),("op",[.int 3,.int 4]),("new",[]),("get",[.int 2]),("put",[.int 1,.int 3]),("out",[.int 1]),("back",[.int 1]),("if",[.int 1]),("while",[.int 1]),("else",[]),("end",[])]
abbrev giving:List Str:=["copy","op","new","get","call"]
def Bj {K:L7} {H:Hp} {xs:List V} {g:Hl Str} {as:List V} (h:RowS K H xs g as):∃kd:Str,aq xs 0=⇑(.str kd) /\
   ((kd="call"/\∃p,aq xs 3=⇑↥p/\aG K H p as)\/(kd≠"call"/\∃pl:List Int,KTD.datumAt kd tabl=⇑(pl.map V.int)/\pl.length=as.length/\∀(i:Nat) (a:V),as[i]?=⇑a->∃p,pl[i]?=⇑p/\aq xs p=⇑a)):=by
 cases h with
 | call x f p as hp=>show#["call",rfl,.inl #[rfl,p,rfl,hp]]
 | copy x a=>show#["copy",rfl,.inr #[by decide +kernel,[2],by decide +kernel,rfl,λi a' e=>by match i,e with|0,e=>exact⟨2,rfl,e⟩]]
 | op x s a b=>show#["op",rfl,.inr #[by decide +kernel,[3,4],by decide +kernel,rfl,λi a' e=>by match i,e with|0,e=>exact⟨3,rfl,e⟩|1,e=>exact⟨4,rfl,e⟩]]
 | new x=>show#["new",rfl,.inr #[by decide +kernel,[],by decide +kernel,rfl,λi a' e=>by simp at e]]
 | get x a f=>show#["get",rfl,.inr #[by decide +kernel,[2],by decide +kernel,rfl,λi a' e=>by match i,e with|0,e=>exact⟨2,rfl,e⟩]]
 | put a f b=>show#["put",rfl,.inr #[by decide +kernel,[1,3],by decide +kernel,rfl,λi a' e=>by match i,e with|0,e=>exact⟨1,rfl,e⟩|1,e=>exact⟨3,rfl,e⟩]]
 | out a=>show#["out",rfl,.inr #[by decide +kernel,[1],by decide +kernel,rfl,λi a' e=>by match i,e with|0,e=>exact⟨1,rfl,e⟩]]
 | back a=>show#["back",rfl,.inr #[by decide +kernel,[1],by decide +kernel,rfl,λi a' e=>by match i,e with|0,e=>exact⟨1,rfl,e⟩]]
 | ifs a=>show#["if",rfl,.inr #[by decide +kernel,[1],by decide +kernel,rfl,λi a' e=>by match i,e with|0,e=>exact⟨1,rfl,e⟩]]
 | whl a=>show#["while",rfl,.inr #[by decide +kernel,[1],by decide +kernel,rfl,λi a' e=>by match i,e with|0,e=>exact⟨1,rfl,e⟩]]
 | els=>show#["else",rfl,.inr #[by decide +kernel,[],by decide +kernel,rfl,λi a' e=>by simp at e]]
 | fin=>show#["end",rfl,.inr #[by decide +kernel,[],by decide +kernel,rfl,λi a' e=>by simp at e]]
abbrev xv:Hl Str->V
 | some x=>.str x
 | none=>.non
def Ba {K:L7} {H:Hp} {xs:List V} {g:Hl Str} {as:List V} (h:RowS K H xs g as):∃kd:Str,aq xs 0=⇑(.str kd) /\
   ((∃x,g=⇑x/\eS (.str kd) (giving.map V.str)=true/\aq xs 1=⇑(.str x))\/(g=none/\eS (.str kd) (giving.map V.str)=false)):=by
 cases h with
 | call x f p as hp=>show#["call",rfl,.inl #[x,rfl,by decide +kernel,rfl]]
 | copy x a=>show#["copy",rfl,.inl #[x,rfl,by decide +kernel,rfl]]
 | op x s a b=>show#["op",rfl,.inl #[x,rfl,by decide +kernel,rfl]]
 | new x=>show#["new",rfl,.inl #[x,rfl,by decide +kernel,rfl]]
 | get x a f=>show#["get",rfl,.inl #[x,rfl,by decide +kernel,rfl]]
 | put a f b=>show#["put",rfl,.inr #[rfl,by decide +kernel]]
 | out a=>show#["out",rfl,.inr #[rfl,by decide +kernel]]
 | back a=>show#["back",rfl,.inr #[rfl,by decide +kernel]]
 | ifs a=>show#["if",rfl,.inr #[rfl,by decide +kernel]]
 | whl a=>show#["while",rfl,.inr #[rfl,by decide +kernel]]
 | els=>show#["else",rfl,.inr #[rfl,by decide +kernel]]
 | fin=>show#["end",rfl,.inr #[rfl,by decide +kernel]]
def Dx:(giving.map V.str).all eM=true:=by decide +kernel
abbrev Atom (v:V):Prop:=(∃s,v=.str s/\Nm s)\/∃i,v=.int i
structure RowD where
 r:Addr
 e:Addr
 a:Addr
 gx:Option Str
 as:List V
structure RowAt (K:W.Frag) (H:Hp) (d:RowD):Prop where
 row:∃xs,aG K H d.r xs/\RowS K H xs d.gx d.as
 ats:∀v∈d.as,Atom v
 len:d.as.length<=10
 nm:∀x,d.gx=⇑x->Nm x
def RowAt.mono {K:L7} {H H':Hp} {d:RowD} (h:RowAt K H d) (e:aB H H'):RowAt K H' d :=
 #[by let#[xs,h1,h2]:=h.row; show#[xs,e<*h1,h2*>e],h.ats,h.len,h.nm]
structure FunAt (K:W.Frag) (H:Hp) (f:Addr) (ps:List Str) (ds:List RowD):Prop where
 fn:∃n b p r,aG K H f [n,b,↥p,↥r]/\aG K H p (ps.map V.str)/\aG K H r (ds.map λd=>V.ref d.r)
 rows:∀d∈ds,RowAt K H d
 pn:∀s∈ps,Nm s
 pl:ps.length<=100
 dl:ds.length<=100
def FunAt.mono {K:L7} {H H':Hp} {f:L6} {ps:List Str} {ds:List RowD} (h:FunAt K H f ps ds) (e:aB H H'):FunAt K H' f ps ds :=
 #[by let#[n,b,p,r,h1,h2,h3]:=h.fn; show#[n,b,p,r,e<*h1,e<*h2,e<*h3],λd hd=>(h.rows d hd)*>e,h.pn,h.pl,h.dl]
abbrev rowStrs (d:RowD):List Str:=d.gx.toList++dY d.as
abbrev allOf (ps:List Str) (ds:List RowD):List Str:=ps++ds.flatMap rowStrs
def pj (as:List V):(dY as).length<=as.length:=List.length_filterMap_le _ _
end K12
namespace K12
open PySem L2
section
variable {P:Program} {w:World} {K:L7} {mg:Str->Hl K'} {base:Heap}
abbrev Gives (H:Hp) (Q:VK) (vs:List V):Prop:=∀l H',aB H H'->H l=none->H' l=⇑(.lst vs)->Q ↥l H'
abbrev sp_gives (K:L7):Sp:=λvs H Q _=>∃(r:L6) (xs:List V) (g:Hl Str) (as:List V),vs=[↥r]/\aG K H r xs/\RowS K H xs g as/\Q (xv g) H
abbrev sp_atoms_of (K:L7):Sp:=λvs H Q _=>∃(r:L6) (xs:List V) (g:Hl Str) (as:List V),vs=[↥r]/\aG K H r xs/\RowS K H xs g as/\as.length<=10/\Gives H Q as
abbrev sp_each_once (K:L7):Sp:=λvs H Q _=>∃(p:L6) (ss:List Str),vs=[↥p]/\aE K H p (ss.map V.str)/\ss.length<=5000/\Gives H Q ((onceL ss).map V.str)
abbrev sp_reads (K:L7):Sp:=λvs H Q _=>∃(r:L6) (xs:List V) (g:Hl Str) (as:List V),vs=[↥r]/\aG K H r xs/\RowS K H xs g as/\as.length<=10/\(∀v∈as,Atom v)/\Gives H Q ((onceL (dY as)).map V.str)
abbrev sp_names_of (K:L7):Sp:=λvs H Q _=>∃(f:L6) (ps:List Str) (ds:List RowD),vs=[↥f]/\FunAt K H f ps ds/\Gives H Q ((onceL (allOf ps ds)).map V.str)
abbrev C6 (K:L7):List V->Hp->VK->Prop:=λxs H Q=>∃x c t b,xs=[x,.ty c]/\TyOf K H x t/\W.kitOne K t (.type c)=⇑b/\Q (.bl b) H
def gD {n:Nat} (h:n<1000000):n<=sizeLine:=by
 have:(1000000:Nat)<sizeLine:=by decide
 lia
def lt_line' {n:Nat} (h:n<1000000):n<sizeLine:=by
 have:(1000000:Nat)<sizeLine:=by decide
 lia
def inV_map (s:Str) (ss:List Str):eS (.str s) (ss.map V.str)=decide (s∈ss):=by
 unfold eS;rw[List.any_map,JD,Kl,JX];constructor
 . rintro ⟨x,hx,h⟩;have h:(x==s)=true:=h;have:x=s:=↑h
   rw[<- this];exact hx
 . intro h;show#[s,h,by show(s==s)=true; simp]
def vV {fs P G B:List Str} (h:onceL fs=onceL P):onceL (fs++G++onceL B)=onceL (P++(G++B)):=by have e:=CH (fs++G) B [];rw[IQ,IQ] at e;rw[e,Ib];unfold onceL at h ⊢;rw[IX,h,<- IX]
abbrev lets:Str:="abcdefghijklmnopqrstuvwxyz"
def lets_ok:PyData.strOk lets=true:=by decide +kernel
end
end K12
namespace K13
open PySem L2
abbrev isO (s:Str):Bool:=decide (s="if") || decide (s="while")
abbrev isE (s:Str):Bool:=decide (s="else") || decide (s="end")
abbrev push (st:List Nat) (i:Nat) (s:Str):List Nat:=if isO s=true then i::st else if s="end" then st.tail else st
abbrev kd (ks:List Str) (i:Nat):Str:=ks.getD i ""
abbrev stk (ks:List Str):Nat->List Nat
 | 0=>[]
 | i+1=>push (stk ks i) i (kd ks i)
def de (ks:List Str) (i:Nat):stk ks (i+1)=push (stk ks i) i (kd ks i):=rfl
def gs (ks:List Str):∀i,∀x∈stk ks i,x<i/\isO (kd ks x)=true
 | 0,x,h=>by cases h
 | i+1,x,h=>by
   rw[de] at h;unfold push at h;split at h
   . rcases Hh.mp h with e|e
     . subst e;show#[Iw _,by assumption]
     . have:=gs ks i x e;show#[∅,this.2]
   . split at h
     . have:=gs ks i x (List.mem_of_mem_tail h);show#[∅,this.2]
     . have:=gs ks i x h;show#[∅,this.2]
variable {s:Str}
def Af (h:isO s=true):¬ s="end":=by intro e;subst e;revert h;decide +kernel
def Gz (h:isO s=true):¬ s="else":=by intro e;subst e;revert h;decide +kernel
def uV:isO ("end":Str)=false:=by decide +kernel
structure Wf (ks:List Str):Prop where
 open_:∀i,i<ks.length->isE (kd ks i)=true->stk ks i≠[]
 els:∀i b r,i<ks.length->kd ks i="else"->stk ks i=b::r->kd ks b="if"
 shut:stk ks ks.length=[]
 last:∀i,i+1=ks.length->kd ks i="back"
 pos:0<ks.length
abbrev At (ks:List Str) (b j d:Nat):Prop:=∃pre,stk ks j=pre++b::stk ks b/\pre.length+1=d
variable {ks:List Str}
def vL {b:Nat} (h:isO (kd ks b)=true):At ks b (b+1) 1:=#[[],by rw[de]; unfold push; rw[He h]; rfl,rfl]
variable {j d:Nat}
def FP {b:Nat}(h:At ks b j d) (ho:isO (kd ks j)=true):At ks b (j+1) (d+1):=by let#[pre,e,l]:=h;show#[j::pre,by rw[de]; unfold push; rw[He ho,e]; rfl,by simp [l]]
def G9 {b:Nat}(h:At ks b j (d+1)) (hd:0<d) (he:kd ks j="end"):At ks b (j+1) d:=by
 let#[pre,e,l]:=h;cases pre with
 | nil=>simp at l; lia
 | cons p pre =>
   show#[pre,?_,by simpa using l];rw[de];unfold push;rw[he,HX (by rw[uV]; decide),He rfl,e];rfl
def Bx {b:Nat}(h:At ks b j d) (ho:¬ isO (kd ks j)=true) (he:¬ kd ks j="end"):At ks b (j+1) d:=by let#[pre,e,l]:=h;show#[pre,by rw[de]; unfold push; rw[HX ho,HX he,e],l]
def Ak {b:Nat}(h:At ks b j 1):stk ks j=b::stk ks b:=by
 let#[pre,e,l]:=h;cases pre with
 | nil=>exact e
 | cons p pre=>simp at l
def we (w:Wf ks) {b:Nat}(h:At ks b j d) (hj:j<=ks.length):j<ks.length:=by
 rcases Ig j ks.length with q|q
 . exact q
 . have e:j=ks.length:=by lia
   subst e;let#[pre,e,_]:=h;rw[w.shut] at e;simp at e
def DO {b:Nat}(h:At ks b j d):0<d:=by
 let#[pre,_,l]:=h
 lia
abbrev c6 (ks:List Str) (b e:Nat):Prop:=b<e/\e<ks.length/\kd ks e="end"/\stk ks e=b::stk ks b/\∀j,b<j->j<=e->∃d,At ks b j d
def sO {ks:List Str} (w:Wf ks) {b:Nat}:∀(m j d:Nat),m=ks.length - j->j<=ks.length->b<j->(∀i,b<i->i<=j->∃d,At ks b i d)->At ks b j d->∃e,j<=e/\c6 ks b e
 | 0,j,d,hm,hj,hb,hall,h=>absurd (we w h hj) ∅
 | m+1,j,d,hm,hj,hb,hall,h=>by
   have hlt:=we w h hj;have go:∀d',At ks b (j+1) d'->∃e,j<=e/\c6 ks b e:=λd' h'=>by
     let#[e,he,q]:=sO w m (j+1) d' ∅ ∅ ∅ (λi h1 h2=>by
       rcases Ig j i with z|z
       . have:i=j+1:=by lia
         subst this;show#[d',h']
       . exact hall i h1 z) h'
     show#[e,∅,q]
   by_cases ho:isO (kd ks j)=true
   . exact go _ (FP h ho)
   by_cases he:kd ks j="end"
   . have hp:=DO h;by_cases hd:d=1
     . subst hd;show#[j,HY _,hb,hlt,he,Ak h,hall]
     . obtain⟨d',rfl⟩:∃d',d=d'+1:=#[d - 1,∅]
       exact go _ (G9 h ∅ he)
   . exact go _ (Bx h ho he)
def vD (w:Wf ks) {b:Nat} (hb:b<ks.length) (ho:isO (kd ks b)=true):∃e,c6 ks b e:=by
 let#[e,_,h]:=sO w (ks.length - (b+1)) (b+1) 1 rfl ∅ ∅ (λi h1 h2=>by
   have:i=b+1:=by lia
   subst this;show#[(1),vL ho]) (vL ho)
 show#[e,h]
abbrev cj (ks:List Str) (b k:Nat):Prop:=isE (kd ks k)=true/\(stk ks k).head?=⇑b
def qz {b k:Nat} (h:cj ks b k):b<k/\isO (kd ks b)=true:=gs ks k b (List.mem_of_mem_head? h.2)
def qL {b e:Nat} (h:c6 ks b e):cj ks b e:=by
 show#[?_,?_]
 . rw[h.2.2.1]; decide +kernel
 . rw[h.2.2.2.1]; rfl
def tV {ks:List Str} {b e:Nat} (h:c6 ks b e):∀j,e<j->b ∉ stk ks j
 | 0,hj,_=>by lia
 | j+1,hj,hm=>by
   rcases Ig e j with q|q
   . have ih:=tV h j q;rw[de] at hm;unfold push at hm;split at hm
     . rcases Hh.mp hm with z|z
       . have:=h.1
         lia
       . exact ih z
     . split at hm
       . exact ih (List.mem_of_mem_tail hm)
       . exact ih hm
   . have e1:j=e:=by lia
     subst e1;rw[de] at hm;unfold push at hm;rw[h.2.2.1,HX (by rw[uV]; decide),He rfl,h.2.2.2.1] at hm;have:=(gs ks b b hm).1
     lia
def vQ {b e k:Nat} (h:c6 ks b e) (hk:cj ks b k):k<=e:=by
 rcases Ig e k with q|q
 . exact absurd (List.mem_of_mem_head? hk.2) (tV h k q)
 . exact q
abbrev one (ks:List Str) (i:Nat):List (Nat×Nat):=if isE (kd ks i)=true then(match stk ks i with | []=>[] | b::_=>[(i,b)]) else []
abbrev bP (ks:List Str):Nat->List (Nat×Nat)
 | 0=>[]
 | i+1=>bP ks i++one ks i
abbrev eN (L:List (Nat×Nat)) (b:Nat):Hl Nat:=L.foldl (λacc p=>if p.2=b then ⇑p.1 else acc) none
abbrev cT (L:List (Nat×Nat)) (b:Nat):Hl Nat:=L.foldl (λacc p=>if acc.isSome=true then acc else if p.2=b then ⇑p.1 else none) none
def iK (ks:List Str) (i:Nat):(∃b,one ks i=[(i,b)]/\cj ks b i)\/(one ks i=[]/\∀b,¬ cj ks b i):=by
 unfold one cj;by_cases h:isE (kd ks i)=true
 . rw[He h];cases q:stk ks i with
   | nil=>exact .inr #[rfl,λb z=>by simp at z]
   | cons b r=>exact .inl #[b,rfl,h,rfl]
 . rw[HX h];exact .inr #[rfl,λb z=>h z.1]
def wB (L:List (Nat×Nat)) (p:Nat×Nat) (b:Nat):eN (L++[p]) b=if p.2=b then ⇑p.1 else eN L b:=by unfold eN; rw[IX]; rfl
def sh (L:List (Nat×Nat)) (p:Nat×Nat) (b:Nat):cT (L++[p]) b=if(cT L b).isSome=true then cT L b else if p.2=b then ⇑p.1 else none:=by unfold cT; rw[IX]; rfl
def oJ {b b' k:Nat} (h:cj ks b k) (h':cj ks b' k):b=b':=by have:=h.2.symm\h'.2;simpa using this
def uf (ks:List Str) (b:Nat):∀i,(∀m,eN (bP ks i) b=⇑m->m<i/\cj ks b m/\∀k,m<k->k<i->¬ cj ks b k)/\(eN (bP ks i) b=none->∀k,k<i->¬ cj ks b k)
 | 0=>#[λm h=>(by cases h),λ_ k hk=>∅]
 | i+1=>by
   let#[ih1,ih2]:=uf ks b i;show(∀m,eN (bP ks i++one ks i) b=⇑m->_)/\(eN (bP ks i++one ks i) b=none->_)
   rcases iK ks i with⟨b',e,hh⟩|⟨e,hn⟩
   . rw[e,wB];by_cases hb:b'=b
     . rw[He hb];subst hb;show#[λm h=>by cases h; show#[Iw _,hh,λk h1 h2=>by lia],λh=>by cases h]
     . rw[HX hb];show#[λm h=>?_,λh k hk=>?_]
       . let#[h1,h2,h3]:=ih1 m h;show#[∅,h2,λk q1 q2 hk=>?_];rcases Ig k i with z|z
         . exact h3 k q1 z hk
         . have:k=i:=by lia
           subst this;exact hb (oJ hh hk)
       . intro hk';rcases Ig k i with z|z
         . exact ih2 h k z hk'
         . have:k=i:=by lia
           subst this;exact hb (oJ hh hk')
   . rw[e,IQ];show#[λm h=>?_,λh k hk hk'=>?_]
     . let#[h1,h2,h3]:=ih1 m h;show#[∅,h2,λk q1 q2 hk=>?_];rcases Ig k i with z|z
       . exact h3 k q1 z hk
       . have:k=i:=by lia
         subst this;exact hn b hk
     . rcases Ig k i with z|z
       . exact ih2 h k z hk'
       . have:k=i:=by lia
         subst this;exact hn b hk'
def mH (ks:List Str) (b:Nat):∀i,(∀m,cT (bP ks i) b=⇑m->m<i/\cj ks b m/\∀k,k<m->¬ cj ks b k)/\(cT (bP ks i) b=none->∀k,k<i->¬ cj ks b k)
 | 0=>#[λm h=>(by cases h),λ_ k hk=>∅]
 | i+1=>by
   let#[ih1,ih2]:=mH ks b i;show(∀m,cT (bP ks i++one ks i) b=⇑m->_)/\(cT (bP ks i++one ks i) b=none->_)
   rcases iK ks i with⟨b',e,hh⟩|⟨e,hn⟩
   . rw[e,sh];cases hf:cT (bP ks i) b with
     | some m0 =>
       rw[He (show(⇑m0).isSome=true from rfl)];let#[h1,h2,h3]:=ih1 m0 hf;show#[λm h=>by cases h; show#[∅,h2,h3],λh=>by cases h]
     | none =>
       rw[HX (show ¬ (none:Hl Nat).isSome=true by decide)];have hno:=ih2 hf;by_cases hb:b'=b
       . rw[He hb];subst hb;show#[λm h=>by cases h; show#[Iw _,hh,λk hk=>hno k hk],λh=>by cases h]
       . rw[HX hb];show#[λm h=>(by cases h),λ_ k hk hk'=>?_];rcases Ig k i with z|z
         . exact hno k z hk'
         . have:k=i:=by lia
           subst this;exact hb (oJ hh hk')
   . rw[e,IQ];show#[λm h=>?_,λh k hk hk'=>?_]
     . let#[h1,h2,h3]:=ih1 m h;show#[∅,h2,h3]
     . rcases Ig k i with z|z
       . exact ih2 h k z hk'
       . have:k=i:=by lia
         subst this;exact hn b hk'
def Bl {b e:Nat} (h:c6 ks b e):eN (bP ks ks.length) b=⇑e:=by
 let#[h1,h2]:=uf ks b ks.length;cases q:eN (bP ks ks.length) b with
 | none=>exact absurd (qL h) (h2 q e h.2.1)
 | some m =>
   let#[q1,q2,q3]:=h1 m q;have:=vQ h q2;rcases Ig m e with z|z
   . exact absurd (qL h) (q3 e z h.2.1)
   . have:m=e:=by lia
     rw[this]
abbrev iJ (ks:List Str) (b f:Nat):Prop:=f<ks.length/\cj ks b f/\∀k,k<f->¬ cj ks b k
def BE {b f f':Nat} (h:iJ ks b f) (h':iJ ks b f'):f=f':=by
 rcases Nat.lt_trichotomy f f' with z|z|z
 . exact absurd h.2.1 (h'.2.2 f z)
 . exact z
 . exact absurd h'.2.1 (h.2.2 f' z)
def Bh {b f:Nat} (h:iJ ks b f):cT (bP ks ks.length) b=⇑f:=by
 let#[h1,h2]:=mH ks b ks.length;cases q:cT (bP ks ks.length) b with
 | none=>exact absurd h.2.1 (h2 q f h.1)
 | some m =>
   let#[q1,q2,q3]:=h1 m q;rw[BE (#[q1,q2,q3]:iJ ks b m) h]
def Ga {b:Nat} (h:¬ isO (kd ks b)=true):cT (bP ks ks.length) b=none:=by
 let#[h1,h2]:=mH ks b ks.length;cases q:cT (bP ks ks.length) b with
 | none=>rfl
 | some m=>exact absurd (qz (h1 m q).2.1).2 h
inductive Beh (ks:List Str):Nat->Nat->Prop
 | els {k b e r:Nat}:kd ks (k+1)="else"->(stk ks (k+1)).head?=⇑b->c6 ks b e->Beh ks e r->Beh ks k r
 | whl {k b:Nat}:kd ks (k+1)="end"->(stk ks (k+1)).head?=⇑b->kd ks b="while"->Beh ks k b
 | fin {k b r:Nat}:kd ks (k+1)="end"->(stk ks (k+1)).head?=⇑b->¬ kd ks b="while"->Beh ks (k+1) r->Beh ks k r
 | oth {k:Nat}:¬ kd ks (k+1)="else"->¬ kd ks (k+1)="end"->Beh ks k (k+1)
def Fy:¬ (("else":Str)="end"):=by decide +kernel
def wU:¬ (("back":Str)="else")/\¬ (("back":Str)="end"):=by decide +kernel
def Ch (h:isO s=true):¬ isE s=true:=by unfold isE;rw[IU (Gz h),IU (Af h)];decide
def Aw (h1:¬ s="else") (h2:¬ s="end"):¬ isE s=true:=by unfold isE;rw[IU h1,IU h2];decide
inductive Due (ks:List Str):Nat->Option (List Nat)->Prop
 | no {k:Nat}:isE (kd ks k)=true->Due ks k none
 | back {k:Nat}:kd ks k="back"->Due ks k ⇑[]
 | two {k f r1 r2:Nat}:isO (kd ks k)=true->iJ ks k f->Beh ks k r1->Beh ks f r2->Due ks k ⇑[r1,r2]
 | one {k r:Nat}:¬ isE (kd ks k)=true->¬ kd ks k="back"->¬ isO (kd ks k)=true->Beh ks k r->Due ks k ⇑[r]
def vJ:¬ isE ("back":Str)=true:=by decide +kernel
def zU:¬ isO ("back":Str)=true:=by decide +kernel
def Ew {b e:Nat} (h:c6 ks b e):∃f,iJ ks b f:=by
 let#[h1,h2]:=mH ks b ks.length;cases q:cT (bP ks ks.length) b with
 | none=>exact absurd (qL h) (h2 q e h.2.1)
 | some m =>
   let#[q1,q2,q3]:=h1 m q;show#[m,q1,q2,q3]
def sT (w:Wf ks) {k:Nat} (hk:k<ks.length) (h:¬ kd ks k="back"):k+1<ks.length:=by
 rcases Ig (k+1) ks.length with z|z
 . exact z
 . exact absurd (w.last k ∅) h
def Dr (w:Wf ks) {b f:Nat} (h:iJ ks b f):f+1<ks.length:=by refine sT w h.1 λz=>?_;have:=h.2.1.1;rw[z] at this;exact vJ this
variable {i:Nat}
def jP {ys:List Str}(h:i<ks.length):kd (ks++ys) i=kd ks i:=by unfold kd;rw[Ii,Ii,IV h]
def Gi (ks ys:List Str) (i:Nat):kd (ks++ys) (ks.length+i)=kd ys i:=by unfold kd;rw[Ii,Ii,IS (Jq _ _),Nat.add_sub_cancel_left]
def nt (ks:List Str) (x:Str):kd (ks++[x]) ks.length=x:=by have:=Gi ks [x] 0;rw[Nat.add_zero] at this;rw[this];rfl
def mD (ks ys:List Str):∀i,i<=ks.length->stk (ks++ys) i=stk ks i
 | 0,_=>rfl
 | i+1,h=>by rw[de,de,mD ks ys i ∅,jP ∅]
structure Good (ks os:List Str):Prop where
 open_:∀i,i<ks.length->isE (kd ks i)=true->stk ks i≠[]
 els:∀i b r,i<ks.length->kd ks i="else"->stk ks i=b::r->kd ks b="if"
 len:(stk ks ks.length).length=os.length
 mt:∀(i b:Nat),(stk ks ks.length)[i]?=⇑b->os[i]?=some "if"->kd ks b="if"
def good_nil:Good [] []:=#[λi h=>absurd h (Ir i),λi _ _ h=>absurd h (Ir i),rfl,λi b h=>by cases h]
def tM (ks:List Str) (x:Str):stk (ks++[x]) (ks++[x]).length=push (stk ks ks.length) ks.length x:=by rw[HZ];show stk (ks++[x]) (ks.length+1)=_;rw[de,mD _ _ _ (HY _),nt]
def Good.snoc {os os':List Str}{x:Str} (g:Good ks os) (ho:isE x=true->os≠[]) (he:x="else"->∃r,os=("if":Str)::r)
   (hl:(push (stk ks ks.length) ks.length x).length=os'.length) (hm:∀(i b:Nat),(push (stk ks ks.length) ks.length x)[i]?=⇑b->os'[i]?=some "if"->kd (ks++[x]) b="if"):Good (ks++[x]) os':=by
 have hn:(ks++[x]).length=ks.length+1:=by rw[HZ]; rfl
 show#[λi h hE=>?_,λi b r h hE hs=>?_,by rw[tM]; exact hl,by rw[tM]; exact hm]
 . rw[mD _ _ _ ∅];rcases Ig i ks.length with z|z
   . rw[jP z] at hE;exact g.open_ i z hE
   . have:i=ks.length:=by lia
     subst this;rw[nt] at hE;intro e;have:=g.len;rw[e] at this;exact ho hE (JJ.mp this.symm)
 . rw[mD _ _ _ ∅] at hs;rcases Ig i ks.length with z|z
   . rw[jP z] at hE;have hb:=(gs ks i b (by rw[hs]; exact Hj)).1;rw[jP ∅];exact g.els i b r z hE hs
   . have:i=ks.length:=by lia
     subst this;rw[nt] at hE;let#[r',e]:=he hE;have hb:=(gs ks ks.length b (by rw[hs]; exact Hj)).1;rw[jP hb];exact g.mt 0 b (by rw[hs]; rfl) (by rw[e]; rfl)
def Good.keep {os:List Str}(g:Good ks os) (x:Str) {b:Nat}(h:(stk ks ks.length)[i]?=⇑b) (h':os[i]?=some "if"):kd (ks++[x]) b="if":=by have hb:=(gs ks ks.length b (IA h)).1;rw[jP hb];exact g.mt i b h h'
def Good.plain {os:List Str}{x:Str} (g:Good ks os) (h1:¬ isO x=true) (h2:¬ isE x=true) (h3:¬ x="end"):Good (ks++[x]) os:=by
 have e:push (stk ks ks.length) ks.length x=stk ks ks.length:=by unfold push; rw[HX h1,HX h3]
 refine g.snoc (λz=>absurd z h2) (λz=>absurd (by rw[z]; decide +kernel) h2) (by rw[e,g.len]) ?_;rw[e];intro i b h h';exact g.keep x h h'
def Good.back (g:Good ks []):Wf (ks++[("back":Str)]):=by
 have hs:stk ks ks.length=[]:=JJ.mp g.len;have g':=g.plain zU vJ 0x7;show#[g'.open_,g'.els,JJ.mp g'.len,λi h=>?_,by rw[HZ]; exact Nat.succ_pos _];have:i=ks.length:=by rw[HZ] at h; simpa using h
 rw[this,nt]
structure RowsAt (K:W.Frag) (H:Hp) (a:Addr) (ks:List Str):Prop where
 ex:∃rs:List Addr,aG K H a (rs.map V.ref)/\rs.length=ks.length/\∀i r,rs[i]?=⇑r->∃rest,aG K H r (V.str (kd ks i)::rest)
variable {H:Hp}
def RowsAt.mono {K:L7} {H':Hp}{a:L6} (h:RowsAt K H a ks) (e:aB H H'):RowsAt K H' a ks :=
 #[by let#[rs,h1,h2,h3]:=h.ex; show#[rs,e<*h1,h2,λi r q=>by let#[rest,z]:=h3 i r q; show#[rest,e<*z]]]
def bU {x:V} {r:List V}:aq (x::r) 0=⇑x:=by unfold aq cb;rw[He #[],He 0x8];rfl
def ixk {K:L7} {Q:VK} {a:L6} {i:Int} (h:RowsAt K H a ks) (h0:0<=i) (h1:i<ks.length) (q:Q (.str (kd ks i.toNat)) H):lq K ↥a (.int i) H λx H1=>lq K x (.int 0) H1 Q:=by
 let#[rs,e1,e2,e3]:=h.ex;have hi:i.toNat<rs.length:=by lia
 let#[rest,hr]:=e3 i.toNat rs[i.toNat] (by simp [hi]);show#[a,_,i,.ref rs[i.toNat],7,e1,?_,rs[i.toNat],_,(0),11,hr,bU,q];have e:aq (rs.map V.ref) i=⇑(V.ref rs[i.toNat]):=by unfold aq cb;rw[He h0,He (by rw[HS]; lia),Jc,Hk];simp [hi]
 exact e
abbrev ft (L:List (Nat×Nat)):List (aF×V):=L.map λp=>(Sum.inl (p.1:Int),V.int (p.2:Int))
abbrev bg (ks:List Str) (i:Nat):List (aF×V):=ft (bP ks i)
def tU (ks:List Str):∀i,∀p∈bP ks i,p.1<i
 | 0,p,h=>by cases h
 | i+1,p,h=>by
   rcases IH.mp h with h|h
   . have:=tU ks i p h
     lia
   . rcases iK ks i with⟨b,e,_⟩|⟨e,_⟩
     . rw[e] at h;have:p=(i,b):=↑h
       rw[this];exact Iw _
     . rw[e] at h;cases h
def Em (ks:List Str) (i:Nat):au (bg ks i) (Sum.inl (i:Int):aF)=none:=by
 have h:=j9 (Sum.inl (i:Int):aF) (bg ks i);cases q:au (bg ks i) (Sum.inl (i:Int):aF) with
 | none=>rfl
 | some v =>
   rw[q] at h;let#[kv,hm,e]:=Kl.mp h;let#[p,hp,rfl]:=IJ.mp hm;have e:=Ij e;have:(p.1:Int)=(i:Int):=Sum.inl.inj e;have:=tU ks i p hp
   lia
def mj {b:Nat}(h:cj ks b i):putK (bg ks i) (Sum.inl (i:Int):aF) (V.int (b:Int))=bg ks (i+1):=by
 rw[ul _ (Em ks i)];rcases iK ks i with⟨b',e,h'⟩|⟨e,h'⟩
 . show ft (bP ks i)++_=ft (bP ks i++one ks i);rw[e,oJ h h'];unfold ft;rw[Hq];rfl
 . exact absurd h (h' b)
def vK (h:¬ isE (kd ks i)=true):bg ks (i+1)=bg ks i:=by
 rcases iK ks i with⟨b',e,h'⟩|⟨e,h'⟩
 . exact absurd h'.1 h
 . show ft (bP ks i++one ks i)=_;rw[e,IQ];rfl
def qr (ks:List Str):∀i,(bP ks i).length<=i
 | 0=>HY _
 | i+1=>by have:=qr ks i;show(bP ks i++one ks i).length<=i+1;rw[HZ];rcases iK ks i with⟨b',e,h'⟩|⟨e,h'⟩ <;> rw[e] <;> simp <;> lia
def qW (ks:List Str) (i:Nat):(bg ks i).length<=i:=by unfold bg ft; rw[HS]; exact qr ks i
abbrev dw (ks:List Str) (i:Nat):List V:=(stk ks i).reverse.map λ(n:Nat)=>V.int (n:Int)
def Cm (ks:List Str):∀i,(dw ks i).length<=i:=by
 intro i;unfold dw;rw[HS,List.length_reverse]
 induction i with
 | zero=>exact HY _
 | succ i ih =>
   rw[de];unfold push;split
   . simp; lia
   . split
     . simp; lia
     . lia
def inO (s:Str):eS (.str s) [V.str "if",V.str "while"]=isO s:=by show((("if":Str)==s) || ((("while":Str)==s) || false))=isO s;unfold isO;rw[Ky];congr 1 <;> (rw[JD,Kg,JX]; exact eq_comm)
def inE (s:Str):eS (.str s) [V.str "else",V.str "end"]=isE s:=by show((("else":Str)==s) || ((("end":Str)==s) || false))=isE s;unfold isE;rw[Ky];congr 1 <;> (rw[JD,Kg,JX]; exact eq_comm)
def cO:0<=sizeLine:=by decide
def eu:1<=sizeLine:=by decide
def bL:2<=sizeLine:=by decide
def lt_line' {n:Nat} (h:n<1000000):n<sizeLine:=by
 have:(1000000:Nat)<sizeLine:=by decide
 lia
def t8 {b:Nat}{r:List Nat} (h:stk ks i=b::r):aq (dw ks i) (-1)=⇑(.int (b:Int))/\(dw ks i)[(dw ks i).length - 1]?=⇑(.int (b:Int))/\(dw ks i).dropLast=r.reverse.map λ(n:Nat)=>V.int (n:Int):=by
 have e:dw ks i=(r.reverse.map λ(n:Nat)=>V.int (n:Int))++[V.int (b:Int)]:=by unfold dw;rw[h,List.reverse_cons,Hq];rfl
 rw[e];show#[?_,by simp,by simp];unfold aq cb;rw[HX #[],He (by simp; lia),Jc];have:((-1:Int)+(((r.reverse.map λ(n:Nat)=>V.int (n:Int))++[V.int (b:Int)]).length:Int)).toNat=(r.reverse.map λ(n:Nat)=>V.int (n:Int)).length:=by
   rw[HZ];simp
   lia
 rw[this];simp
def tD {K:L7} {a q:L6} {xs:List V} {kvs:List (aF×V)} {o:HO} (h:aG K H a xs) (hq:H q=⇑(.dK kvs)):aG K (upd H q o) a xs:=by
 rcases h with(h|⟨o,h⟩)|h
 . exact .inl (.inl (by rw[aM (iD h hq (by intro z; cases z))]; exact h))
 . exact .inl (.inr #[o,by rw[aM (iD h hq (by intro z; cases z))]; exact h])
 . exact .inr h
def RowsAt.frz {K:L7} {H:Hp} {a q:L6} {ks:List Str} {kvs:List (aF×V)} {o:HO} (h:RowsAt K H a ks) (hq:H q=⇑(.dK kvs)):RowsAt K (upd H q o) a ks :=
 #[by let#[rs,h1,h2,h3]:=h.ex; show#[rs,tD h1 hq,h2,λi r z=>by let#[rest,y]:=h3 i r z; show#[rest,tD y hq]]]
abbrev tW (H:Hp) (l:L6) (ks:List Str):Prop:=∃bs,H l=⇑(.lst bs)/\bs.length=ks.length/\∀k,k+1<ks.length->∃r:Nat,Beh ks k r/\bs[k]?=⇑(.int (r:Int))
abbrev ui (n:Nat):List V:=(List.replicate n [V.non]).flatten
def Ez (n:Nat):(ui n).length=n:=by unfold ui; rw[uT]; simp
def wC {b k:Nat} (n:Nat) (hk:k<n) (h:cj ks b k):au (bg ks n) (Sum.inl (k:Int):aF)=⇑(.int (b:Int)):=by
 induction n with
 | zero=>lia
 | succ n ih =>
   rcases Ig k n with z|z
   . rcases iK ks n with⟨b',e,h'⟩|⟨e,h'⟩
     . rw[<- mj h',cf,HX (λz'=>by have:(k:Int)=(n:Int):=Sum.inl.inj z'; lia)];exact ih z
     . have:bg ks (n+1)=bg ks n:=by show ft (bP ks n++one ks n)=_;rw[e,IQ];rfl
       rw[this];exact ih z
   . have:k=n:=by lia
     subst this;rw[<- mj h,cf,He rfl]
def vk {n:Nat}{kv:aF×V} (h:(bg ks n)[i]?=⇑kv):∃p:Nat×Nat,(bP ks n)[i]?=⇑p/\kv=(Sum.inl (p.1:Int),V.int (p.2:Int)):=by
 unfold bg ft at h;rw[Hk] at h;cases q:(bP ks n)[i]? with
 | none=>rw[q] at h; cases h
 | some p=>rw[q] at h; show#[p,rfl,by simpa using h.symm]
abbrev GC (l:List Nat):List V:=l.map λ(n:Nat)=>V.int (n:Int)
abbrev gC (H:Hp) (v:V):Hl (List Nat)->Prop
 | none=>v=.non
 | some l=>∃p,v=↥p/\H p=⇑(.tup (GC l))
def gC.mono {H':Hp}{v:V} {o:Hl (List Nat)} (h:gC H v o) (e:aB H H'):gC H' v o:=by
 cases o with
 | none=>exact h
 | some l=>let#[p,h1,h2]:=h; show#[p,h1,e _ _ h2]
def gC.lst {H:Hp} {q:L6} {l l':List V} {v:V} {o:Hl (List Nat)} (h:gC H v o) (hq:H q=⇑(.lst l)):gC (upd H q (.lst l')) v o:=by
 cases o with
 | none=>exact h
 | some l=>let#[p,h1,h2]:=h; show#[p,h1,by rw[aM (iD h2 hq (by intro z; cases z))]; exact h2]
abbrev FoundN (H:Hp) (l:L6) (ks:List Str) (i:Nat):Prop:=∃vs:List V,H l=⇑(.lst vs)/\vs.length=i/\∀k v,vs[k]?=⇑v->∃o,Due ks k o/\gC H v o
def FoundN.mono {H H':Hp} {l:L6} {ks:List Str} {i:Nat} (h:FoundN H l ks i) (e:aB H H'):FoundN H' l ks i :=
 by let#[vs,h1,h2,h3]:=h; show#[vs,e _ _ h1,h2,λk v q=>by let#[o,d,z]:=h3 k v q; show#[o,d,z*>e]]
def FoundN.push {l:L6} {vs:List V} {v:V} {o:Hl (List Nat)} (h1:H l=⇑(.lst vs)) (h2:vs.length=i) (h3:∀k v,vs[k]?=⇑v->∃o,Due ks k o/\gC H v o) (hd:Due ks i o) (hv:gC H v o):FoundN (upd H l (.lst (vs++[v]))) l ks (i+1):=by
 show#[_,aI,by rw[HZ,h2]; rfl,λk v' q=>?_];rcases Ig k vs.length with z|z
 . rw[IV z] at q;let#[o',d,y]:=h3 k v' q;show#[o',d,y.lst h1]
 . rw[IS z] at q;have hk:k - vs.length=0:=by
     rcases Nat.eq_zero_or_pos (k - vs.length) with y|y
     . exact y
     . rw[Jm (by simp; lia)] at q;cases q
   rw[hk] at q;have hv':v=v':=↑q
   subst hv';have:k=i:=by lia
   subst this;show#[o,hd,hv.lst h1]
section
variable {P:Program} {w:World} {K:L7} {mg:Str->Hl K'} {base:Heap}
abbrev sp_begins_of (K:L7):Sp:=λvs H Q _=>∃(a:L6) (ks:List Str),vs=[↥a]/\RowsAt K H a ks/\Wf ks/\ks.length<=1000/\∀d H',aB H H'->H d=none->H' d=⇑(.dK (bg ks ks.length))->Q ↥d H'
abbrev sp_firsts_behind (K:L7):Sp:=λvs H Q _=>∃(a d:L6) (ks:List Str),vs=[↥a,↥d]/\RowsAt K H a ks/\Wf ks/\ks.length<=1000/\H d=⇑(.dK (bg ks ks.length))/\∀l o H',aB (upd H d (.frz o (.dK (bg ks ks.length)))) H'->H l=none->tW H' l ks->Q ↥l H'
abbrev sp_ways (K:L7):Sp:=λvs H Q _=>∃(a:L6) (ks:List Str),vs=[↥a]/\RowsAt K H a ks/\Wf ks/\ks.length<=1000/\∀l H',aB H H'->H l=none->FoundN H' l ks ks.length->Q ↥l H'
def gD {n:Nat} (h:n<1000000):n<=sizeLine:=by
 have:(1000000:Nat)<sizeLine:=by decide
 lia
end
end K13
namespace Fl
open PySem L2 Gx
structure Rw where
 r:Addr
 k:Str
 c:Str
structure Fd where
 name:Str
 fa:Addr
 ra:Addr
 rs:List Rw
abbrev jE (K:L7) (H:Hp) (w:Rw):Prop:=∃rest,aG K H w.r (V.str w.k::rest)/\(w.k="call"->∃x y,rest=[x,.str w.c,y])
variable {H:Hp}
def jE.mono {K:L7} {H':Hp}{w:Rw} (e:aB H H') (h:jE K H w):jE K H' w:=by let#[rest,h1,h2]:=h; show#[rest,e<*h1,h2]
structure FnAt (K:W.Frag) (H:Hp) (f:Fd):Prop where
 fn:∃fo pa,aG K H f.fa [.str f.name,fo,↥pa,↥f.ra]
 rw_:aG K H f.ra (f.rs.map λw=>V.ref w.r)
 rk:∀w∈f.rs,jE K H w
 fu:∃ps ds,K12.FunAt K H f.fa ps ds
 wf:K13.Wf (f.rs.map (·.k))
 len:f.rs.length<=100
def FnAt.mono {K:L7} {H H':Hp} {f:Fd} (e:aB H H') (h:FnAt K H f):FnAt K H' f :=
 #[by let#[a,b,z]:=h.fn; show#[a,b,e<*z],e<*h.rw_,λw hw=>(h.rk w hw)*>e,by let#[a,b,z]:=h.fu; show#[a,b,z*>e],h.wf,h.len]
def FnAt.rows {K:L7} {f:Fd} (h:FnAt K H f):K13.RowsAt K H f.ra (f.rs.map (·.k)):=by
 show#[f.rs.map (·.r),by rw[Iq]; exact h.rw_,by rw[HS,HS],λi r hr=>?_];rw[Hk] at hr;cases e:f.rs[i]? with
 | none=>rw[e] at hr; cases hr
 | some w =>
   rw[e] at hr;cases hr;let#[rest,h1,_]:=h.rk w (IA e);show#[rest,?_];have:K13.kd (f.rs.map (·.k)) i=w.k:=by unfold K13.kd;rw[Ii,Hk,e];rfl
   rw[this];exact h1
structure FS (C:Addr) (H:Hp) (x dx:Addr) (fs:List (Str×V)) (d:Nat->Addr) (kv:Nat->List (aF×V)):Prop where
 ob:H x=⇑(.ins C dx fs)
 dc:∀j,j<6->H (d j)=⇑(.dK (kv j))
def FS.mono {C:L6} {H':Hp}{x dx:L6} {fs:List (Str×V)} {d:Nat->L6} {kv:Nat->List (aF×V)} (e:aB H H') (h:FS C H x dx fs d kv):FS C H' x dx fs d kv:=#[e _ _ h.ob,λj hj=>e _ _ (h.dc j hj)]
def FS.put {C:L6} {x dx:L6} {fs:List (Str×V)} {d:Nat->L6} {kv:Nat->List (aF×V)} (h:FS C H x dx fs d kv) (inj:∀i j,i<6->j<6->d i=d j->i=j) (j:Nat) (hj:j<6) (k':List (aF×V)):FS C (upd H (d j) (.dK k')) x dx fs d (λi=>if i=j then k' else kv i):=by
 show#[?_,λi hi=>?_]
 . rw[aM (iD h.ob (h.dc j hj) (by intro z; cases z))]; exact h.ob
 . by_cases e:i=j
   . subst e;rw[aI,He rfl]
   . rw[aM (λz=>e (inj i j hi hj z)),HX e];exact h.dc i hi
abbrev dJ (v:V) (d:Nat->L6):List (Str×V):=bT "ways_in" ↥(d 5) (bT "names_in" ↥(d 4) (bT "rows_of" ↥(d 3) (bT "params_of" ↥(d 2) (bT "folded_of" ↥(d 1) (bT "number_of" ↥(d 0) (bT "last" v []))))))
def Dn (v:V) (d:Nat->L6):(dJ v d).lookup ("number_of":Str)=⇑↥(d 0):=by unfold dJ;rw[bt,HX 0x7,bt,HX 0x7,bt,HX 0x7,bt,HX 0x7,bt,HX 0x7,bt,He rfl]
def C2 (v:V) (d:Nat->L6):(dJ v d).lookup ("folded_of":Str)=⇑↥(d 1):=by unfold dJ;rw[bt,HX 0x7,bt,HX 0x7,bt,HX 0x7,bt,HX 0x7,bt,He rfl]
def A7 (v:V) (d:Nat->L6):(dJ v d).lookup ("params_of":Str)=⇑↥(d 2):=by unfold dJ;rw[bt,HX 0x7,bt,HX 0x7,bt,HX 0x7,bt,He rfl]
def zW (v:V) (d:Nat->L6):(dJ v d).lookup ("rows_of":Str)=⇑↥(d 3):=by unfold dJ;rw[bt,HX 0x7,bt,HX 0x7,bt,He rfl]
def uS (v:V) (d:Nat->L6):(dJ v d).lookup ("names_in":Str)=⇑↥(d 4):=by unfold dJ;rw[bt,HX 0x7,bt,He rfl]
def Dz (v:V) (d:Nat->L6):(dJ v d).lookup ("ways_in":Str)=⇑↥(d 5):=by unfold dJ;rw[bt,He rfl]
def B' (v:V) (d:Nat->L6):(dJ v d).lookup ("last":Str)=⇑v:=by unfold dJ;rw[bt,HX 0x7,bt,HX 0x7,bt,HX 0x7,bt,HX 0x7,bt,HX 0x7,bt,HX 0x7,bt,He rfl]
abbrev dd (d0 d1 d2 d3 d4 d5:L6):Nat->L6
 | 0=>d0
 | 1=>d1
 | 2=>d2
 | 3=>d3
 | 4=>d4
 | _=>d5
def Bp {d0 d1 d2 d3 d4 d5:L6} (h:[d0,d1,d2,d3,d4,d5].Nodup) (i j:Nat) (hi:i<6) (hj:j<6) (e:dd d0 d1 d2 d3 d4 d5 i=dd d0 d1 d2 d3 d4 d5 j):i=j:=by
 have g:∀k,k<6->[d0,d1,d2,d3,d4,d5][k]?=⇑(dd d0 d1 d2 d3 d4 d5 k):=λk hk=>by rcases k with _|_|_|_|_|_|k <;> first|rfl|lia
 exact(K1 hi h).mp ((g i hi)\((Hr some e)\(g j hj).symm))
def bM {a b:L6} {o:HO} (h:upd H a o b=none):b≠a/\H b=none:=by
 have hn:b≠a:=λz=>by rw[z,aI] at h; cases h
 rw[aM hn] at h;show#[hn,h]
def ax {a b:L6} {o o':HO} (h:H b=⇑o) (hn:b≠a):upd H a o' b=⇑o:=by rw[aM hn]; exact h
def jN (f:Str) (v:V) (l:List (Str×V)) (k:Nat) (h:l.length<=k):(bT f v l).length<=k+1:=Hu (oC f v l) ∅
end Fl
namespace L2
open PySem
abbrev hl (H:Hp):Hp:=λb=>match H b with
 | some (.lst xs)=>⇑(.lst xs)
 | some (.tup xs)=>⇑(.tup xs)
 | _=>none
variable {H:Hp}
def pe :aB (hl H) H:=λb o h=>by
 unfold hl at h;split at h
 . rename_i e; rw[e]; exact h
 . rename_i e; rw[e]; exact h
 . cases h
def uM {b:L6} {xs:List V} (h:H b=⇑(.lst xs)):hl H b=⇑(.lst xs):=by unfold hl; rw[h]
def zq {b:L6} {xs:List V} (h:H b=⇑(.tup xs)):hl H b=⇑(.tup xs):=by unfold hl; rw[h]
def aB.hl {H H':Hp} (e:aB H H'):aB (hl H) (hl H'):=λb o h=>by have h1:=pe _ _ h;have h2:=e _ _ h1;unfold L2.hl at h ⊢;rw[h1] at h;rw[h2];exact h
def F1 {a:L6} {o:HO} (h:∀xs,H a≠⇑(.lst xs)/\H a≠⇑(.tup xs)) (ho:∀xs,o≠.lst xs/\o≠.tup xs):hl (upd H a o)=hl H:=by
 funext b;unfold hl upd;by_cases hb:b=a
 . subst hb;rw[He rfl];cases o with
   | lst xs=>exact absurd rfl (ho xs).1
   | tup xs=>exact absurd rfl (ho xs).2
   | _ =>
     cases e:H b with
     | none=>rfl
     | some u=>cases u with
       | lst xs=>exact absurd e (h xs).1
       | tup xs=>exact absurd e (h xs).2
       | _=>rfl
 . rw[HX hb]
def jI {a:L6} {kvs kvs':List (aF×V)} (h:H a=⇑(.dK kvs)):hl (upd H a (.dK kvs'))=hl H :=
 F1 (λxs=>#[(by rw[h]; intro z; cases z),(by rw[h]; intro z; cases z)]) λxs=>#[(by intro z; cases z),(by intro z; cases z)]
end L2
namespace K13
open PySem L2
def FoundN.hl {H:Hp} {l:L6} {ks:List Str} {i:Nat} (h:FoundN H l ks i):FoundN (L2.hl H) l ks i:=by
 let#[vs,h1,h2,h3]:=h;show#[vs,uM h1,h2,λk v q=>?_];let#[o,d,z]:=h3 k v q;show#[o,d,?_];cases o with
 | none=>exact z
 | some l=>let#[p,z1,z2]:=z; show#[p,z1,zq z2]
end K13
namespace F2
open PySem L2 Gx Fl
structure Fd where
 name:Str
 fo:V
 fa:Addr
 pa:Addr
 ra:Addr
 ps:List Str
 rs:List Rw
 ds:List K12.RowD
structure FnAt (K:W.Frag) (H:Hp) (f:Fd):Prop where
 fn:aG K H f.fa [.str f.name,f.fo,↥f.pa,↥f.ra]
 pr:aG K H f.pa (f.ps.map V.str)
 rw_:aG K H f.ra (f.rs.map λw=>V.ref w.r)
 rk:∀w∈f.rs,jE K H w
 fu:K12.FunAt K H f.fa f.ps f.ds
 wf:K13.Wf (f.rs.map (·.k))
 len:f.rs.length<=100
def FnAt.mono {K:L7} {H H':Hp} {f:Fd} (e:aB H H') (h:FnAt K H f):FnAt K H' f :=
 #[e<*h.fn,e<*h.pr,e<*h.rw_,λw hw=>(h.rk w hw)*>e,h.fu*>e,h.wf,h.len]
abbrev toF (f:Fd):Fl.Fd:=#[f.name,f.fa,f.ra,f.rs]
def FnAt.old {K:L7} {H:Hp} {f:Fd} (h:FnAt K H f):Fl.FnAt K H (toF f):=#[#[4,h.fn],h.rw_,h.rk,#[4,h.fu],h.wf,h.len]
abbrev nms (f:Fd):List Str:=K12.onceL (K12.allOf f.ps f.ds)
abbrev im (f:Fd):List Str:=f.rs.map (·.k)
abbrev kD (g:Nat->Fd->V) (fns:List Fd):List (aF×V):=fns.mapIdx λi f=>(Sum.inr f.name,g i f)
def Bs (g:Nat->Fd->V) (fns:List Fd) (f:Fd):kD g (fns++[f])=kD g fns++[(Sum.inr f.name,g fns.length f)]:=by unfold kD;rw[List.mapIdx_append];simp
variable {fns:List Fd}
def ES {g g':Nat->Fd->V} (h:∀i f,i<fns.length->g i f=g' i f):kD g fns=kD g' fns:=by unfold kD;refine List.ext_getElem 0x8 λi h1 h2=>?_;simp only[List.getElem_mapIdx];rw[h i _ ↑h1]
def Ag (g:Nat->Fd->V) {s:Str} (h:s ∉ fns.map (·.name)):au (kD g fns) (Sum.inr s:aF)=none:=by
 unfold au;rw[Option.map_eq_none_iff,List.find?_eq_none];intro kv hkv z;unfold kD at hkv;let#[i,hi,e]:=List.mem_mapIdx.mp hkv;subst e;have z:(Sum.inr fns[i].name:aF)=Sum.inr s:=↑z
 exact h (IJ.mpr #[fns[i],IT hi,Sum.inr.inj z])
def wA {f:Fd} {i:Nat} (h:fns[i]?=⇑f) (nd:(fns.map (·.name)).Nodup):f.name ∉ (fns.take i).map (·.name):=by
 intro z;let#[g,hg,e]:=IJ.mp z;let#[j,hj]:=List.getElem?_of_mem hg;have hji:j<i:=by
   have:=(HV.mp hj).1;rw[IE] at this
   lia
 rw[JE hji] at hj;have h1:(fns.map (·.name))[i]?=⇑f.name:=by rw[Hk,h]; rfl
 have h2:(fns.map (·.name))[j]?=⇑f.name:=by rw[Hk,hj]; exact Hr some e
 have:=(K1 (HV.mp h2).1 nd).mp (h2\h1.symm)
 lia
def hU {g g':Nat->Fd->V} {f:Fd} {i:Nat} {v:V} (h:fns[i]?=⇑f) (nd:(fns.map (·.name)).Nodup) (hg:∀j f,j<i->g j f=g' j f) (hv:v=g' i f):putK (kD g (fns.take i)) 0xB v=kD g' (fns.take (i+1)):=by
 have hi:i<fns.length:=(HV.mp h).1;have hl:(fns.take i).length=i:=by rw[IE]; lia
 rw[ul _ (Ag g (wA h nd)),IM,h];show _=kD g' (fns.take i++[f]);rw[Bs,hl,<- hv,ES (g:=g) (g':=g') λj f hj=>hg j f ∅]
def kD_at (g:Nat->Fd->V):∀{fns:List Fd} {i:Nat} {f:Fd},(fns.map (·.name)).Nodup->fns[i]?=⇑f->au (kD g fns) 0xB=⇑(g i f):=by
 intro fns i f nd h;have hi:i<fns.length:=(HV.mp h).1;have key:∀k,i<k->k<=fns.length->au (kD g (fns.take k)) 0xB=⇑(g i f):=by
   intro k
   induction k with
   | zero=>intro h0; exact absurd h0 (Ir _)
   | succ k ih =>
     intro hk hk';obtain⟨f',hf'⟩:∃f',fns[k]?=⇑f':=#[fns[k],HU ∅]
     rw[<- hU (g:=g) (g':=g) hf' nd (λ_ _ _=>rfl) rfl,cf];by_cases e:i=k
     . subst e;rw[h] at hf';cases hf';rw[He rfl]
     . have hn:¬ 0xB=Sum.inr f'.name:=λz=>wA hf' nd (IJ.mpr #[f,IA (by rw[JE (show i<k by lia)]; exact h),Sum.inr.inj z]);rw[HX hn];exact ih ∅ ∅
 have:=key fns.length hi (HY _);rw[IP] at this;exact this
structure FlowsAt (K:W.Frag) (C:Addr) (H:Hp) (x:Addr) (fns:List Fd):Prop where
 all:∀f∈fns,FnAt K H f
 nd:(fns.map (·.name)).Nodup
 ob:∃dx fz d kv,∃nl wl:Nat->Addr,fns[fns.length - 1]?=⇑fz/\FS C H x dx (dJ (V.str fz.name) d) d kv/\kv 0=kD (λi _=>.int i) fns/\kv 1=kD (λ_ f=>f.fo) fns/\kv 2=kD (λ_ f=>↥f.pa) fns/\kv 3=kD (λ_ f=>↥f.ra) fns /\
   kv 4=kD (λi _=>↥(nl i)) fns/\kv 5=kD (λi _=>↥(wl i)) fns/\∀i f,fns[i]?=⇑f->H (nl i)=⇑(.lst ((nms f).map V.str))/\K13.FoundN H (wl i) (im f) (im f).length
def FlowsAt.mono {K:L7} {C:L6} {H H':Hp} {x:L6} {fns:List Fd} (e:aB H H') (h:FlowsAt K C H x fns):FlowsAt K C H' x fns:=by let#[dx,fz,d,kv,nl,wl,h0,h1,h2,h3,h4,h5,h6,h7,h8]:=h.ob;show#[λf hf=>(h.all f hf)*>e,h.nd,#[dx,fz,d,kv,nl,wl,h0,h1*>e,h2,h3,h4,h5,h6,h7,λi f hi=>#[e _ _ (h8 i f hi).1,(h8 i f hi).2.mono e]]]
end F2
namespace K21
open PySem L2
noncomputable abbrev wide:Int:=281474976710656
abbrev bw (s:Str) (a b:Int):Int:=if s="&" then Builtin.bitAnd a b else if s="|" then Builtin.bitOr a b else Builtin.bitXor a b
abbrev jn (s:Str) (x y:Int):Int:=if s="&" then x * y else if s="|" then x+y - x * y else(x+y)%2
def m9 (x:Int):x%2=0\/x%2=1:=by lia
def ET (s:Str) (a b:Int):0<=jn s (a%2) (b%2)/\jn s (a%2) (b%2)<=1:=by unfold jn;rcases m9 a with h|h <;> rcases m9 b with h' | h' <;> rw[h,h'] <;> (split; decide; split <;> decide)
def Be {x y:Int} (hx:0<=x) (hy:0<=y):Builtin.bitAnd x y=2 * Builtin.bitAnd (x / 2) (y / 2)+(x%2) * (y%2):=by
 let#[n,rfl]:=Iv hx;let#[m,rfl]:=Iv hy;rw[PyProof.Rows.bitAnd_pp hx hy,PyProof.Rows.bitAnd_pp ∅ ∅];have e1:(Int.ofNat n).toNat=n:=rfl;have e2:(Int.ofNat m).toNat=m:=rfl;have e3:((n:Int) / 2).toNat=n / 2:=by lia
 have e4:((m:Int) / 2).toNat=m / 2:=by lia
 have a1:((n &&& m) / 2)=(n / 2) &&& (m / 2):=Nat.and_div_two;have a2:(n &&& m)%2=(n%2) * (m%2):=by have h1:=Nat.and_mod_two_eq_one (a:=n) (b:=m);rcases Ke n with h|h <;> rcases Ke m with h' | h' <;> rw[h,h'] at h1 ⊢ <;> lia
 have a3:=Nat.div_add_mod (n &&& m) 2;show((n &&& m:Nat):Int)=_;rw[e3,e4,<- a1];have a4:((n:Int)%2) * ((m:Int)%2)=(((n%2) * (m%2):Nat):Int):=by rw[Int.natCast_mul];rfl
 show _=2 * (((n &&& m) / 2:Nat):Int)+((n:Int)%2) * ((m:Int)%2);rw[a4,<- a2]
 lia
def CI (s:Str) {a b:Int} (ha:0<=a) (hb:0<=b):bw s a b=2 * bw s (a / 2) (b / 2)+jn s (a%2) (b%2):=by
 have h:=Be ha hb;unfold bw jn;split
 . exact h
 . split
   . rw[K5,K5,h]
     lia
   . have e:∀x y:Int,Builtin.bitXor x y=x+y - 2 * Builtin.bitAnd x y:=λx y=>by
       unfold Builtin.bitXor;rw[K5]
       lia
     rw[e,e,h];rcases m9 a with p|p <;> rcases m9 b with p' | p' <;> rw[p,p'] <;> lia
def FT (s:Str):bw s 0 0=0:=by
 unfold bw;split
 . rfl
 . split <;> rfl
def wK (s:Str):∀(n:Nat) {a b:Int},0<=a->0<=b->a<2 ^ n->b<2 ^ n->0<=bw s a b/\bw s a b<2 ^ n
 | 0,a,b,h1,h2,h3,h4=>by
   have e1:a=0:=by simp at h3; lia
   have e2:b=0:=by simp at h4; lia
   subst e1 e2;rw[FT];decide
 | n+1,a,b,h1,h2,h3,h4=>by
   rw[Int.pow_succ] at h3 h4 ⊢;have ih:=wK s n (a:=a / 2) (b:=b / 2) ∅ ∅ ∅ ∅;have st:=CI s h1 h2;have bb:=ET s a b
   lia
abbrev valOf (s:Str) (a b:Int):Int :=
 if s="+" then(a+b)%wide else if s="-" then(a - b)%wide else if s="*" then(a * b)%wide else if s="/" then(if b=0 then 0 else a / b)
 else if s="<" then(if a<b then 1 else 0) else if s="=" then(if a=b then 1 else 0) else bw s a b
def Am (s:Str) {a b:Int} (ha:0<=a) (hb:0<=b) (ha':a<wide) (hb':b<wide):0<=valOf s a b/\valOf s a b<wide:=by
 have m:∀z:Int,0<=z%wide/\z%wide<wide:=λz=>#[JT _ #[],JN _ #[]]
 unfold valOf;split
 . exact m _
 split
 . exact m _
 split
 . exact m _
 split
 . split
   . decide
   . have h1:0<=a / b:=Int.ediv_nonneg ha hb;have h2:a / b<=a:=Int.ediv_le_self b ha
     lia
 split
 . split <;> decide
 split
 . split <;> decide
 exact wK s 48 ha hb ha' hb'
end K21
namespace L2
open PySem PySem.Spec PyProof.Rows
inductive WVar (i:Nat) (σ:St) (H:Hp) (Q:VK):Prop
 | mk (v:V) (h:σ[i]?=⇑⇑v) (q:Q v H):WVar i σ H Q
abbrev Bd (i:Nat):TE:=λσ H Q=>WVar i σ H Q
variable {X:Cx}
def aA (i:Nat) {x:Str} {pos:Pos} (hN:X.N[i]?=⇑x:=by rfl) (hv:jp X.env.scope x:=by first|exact Or.inl rfl|exact Or.inr 0x4|exact Or.inr (Or.inr rfl)) (hd:(x==("__debug__":Str))=false:=by decide)
   (hcd:(x==("__classdict__":Str))=false:=by decide):PE X (.Name x pos) (Bd i):=λpins s σ H Q I h=>pv i hN hv hd hcd pins s σ H Q I (by let#[v,e,q]:=h; show#[v,e,q])
inductive WIxL (K:W.Frag) (x y:V) (H:Hp) (Q:VK):Prop
 | mk (p:Addr) (xs:List V) (i:Int) (v:V) (h1:x=↥p) (h2:y=.int i) (h3:aE K H p xs) (h4:aq xs i=⇑v) (q:Q v H):WIxL K x y H Q
inductive WIxT (K:W.Frag) (x y:V) (H:Hp) (Q:VK):Prop
 | mk (p:Addr) (xs:List V) (i:Int) (v:V) (h1:x=↥p) (h2:y=.int i) (h3:aG K H p xs) (h4:aq xs i=⇑v) (q:Q v H):WIxT K x y H Q
abbrev bA (K:L7):R2:=λx y H Q=>WIxL K x y H Q
abbrev jk (K:L7):R2:=λx y H Q=>WIxT K x y H Q
def am.imp {r r':R2} (h:am X r) (f:∀x y H Q,r' x y H Q->r x y H Q):am X r':=λa b pins s σ H x y v u Q I r1 r2 q z=>h a b pins s σ H x y v u Q I r1 r2 (f x y H Q q) z
def bS.imp {g:K'->K'->Sem K'} {r r':R2} (h:bS X g r) (f:∀x y H Q,r' x y H Q->r x y H Q):bS X g r':=λpins s σ H x y v u Q I r1 r2 q=>h pins s σ H x y v u Q I r1 r2 (f x y H Q q)
def aw.imp {g:K'} {r r':List V->Hp->VK->Prop} (h:aw X g r) (f:∀xs H Q,r' xs H Q->r xs H Q):aw X g r':=λpins s σ H xs us Q I r1 q=>h pins s σ H xs us Q I r1 (f xs H Q q)
def bC :am X (bA X.K):=gk.imp λx y H Q h=>by let#[p,xs,i,v,h1,h2,h3,h4,q]:=h; show#[p,xs,i,v,h1,h2,h3,h4,q]
def oP :am X (jk X.K):=eY.imp λx y H Q h=>by let#[p,xs,i,v,h1,h2,h3,h4,q]:=h; show#[p,xs,i,v,h1,h2,h3,h4,q]
inductive WI (C:Int->Int->Prop) (g:Int->Int->V) (x y:V) (H:Hp) (Q:VK):Prop
 | mk (i j:Int) (h1:x=.int i) (h2:y=.int j) (h3:C i j) (q:Q (g i j) H):WI C g x y H Q
inductive WI0 (g:Int->Int->V) (x y:V) (H:Hp) (Q:VK):Prop
 | mk (i j:Int) (h1:x=.int i) (h2:y=.int j) (q:Q (g i j) H):WI0 g x y H Q
abbrev cI (C:Int->Int->Prop) (g:Int->Int->V):R2:=λx y H Q=>WI C g x y H Q
abbrev cI0 (g:Int->Int->V):R2:=λx y H Q=>WI0 g x y H Q
def aV {f:K'->K'->Sem K'} {C:Int->Int->Prop} {g:Int->Int->V} (h:bS X f (rI C g)):bS X f (cI C g):=h.imp λx y H Q h=>by let#[i,j,h1,h2,h3,q]:=h; show#[i,j,h1,h2,h3,q]
def ay {f:K'->K'->Sem K'} {g:Int->Int->V} (h:bS X f (fU g)):bS X f (cI0 g):=h.imp λx y H Q h=>by let#[i,j,h1,h2,q]:=h; show#[i,j,h1,h2,q]
inductive WLen (K:W.Frag) (xs:List V) (H:Hp) (Q:VK):Prop
 | mk (p:Addr) (ys:List V) (h1:xs=[↥p]) (h2:aE K H p ys\/aG K H p ys) (q:Q (.int ys.length) H):WLen K xs H Q
abbrev bd (K:L7):List V->Hp->VK->Prop:=λxs H Q=>WLen K xs H Q
def bo :aw X (.builtin "len") (bd X.K):=ix.imp λxs H Q h=>by let#[p,ys,h1,h2,q]:=h; show#[p,ys,h1,h2,q]
inductive WApp (x:V) (vs:List V) (H:Hp) (Q:VK):Prop
 | mk (l:Addr) (xs:List V) (y:V) (h1:x=↥l) (h2:vs=[y]) (h3:H l=⇑(.lst xs)) (h4:xs.length<sizeLine) (q:Q .non (upd H l (.lst (xs++[y])))):WApp x vs H Q
abbrev GO:V->List V->Hp->VK->Prop:=λx vs H Q=>WApp x vs H Q
def g9 :jR X "list.append" GO:=λpins s σ H x xs v us Q I r1 r2 q=>jD pins s σ H x xs v us Q I r1 r2 (by let#[l,xs,y,h1,h2,h3,h4,q]:=q; show#[l,xs,y,h1,h2,h3,h4,q])
inductive WBl (x:V) (H:Hp) (Q:Bool->Hp->Prop):Prop
 | mk (k:Bool) (h:x=.bl k) (q:Q k H):WBl x H Q
abbrev rp (t:TE):TT:=λσ H Q=>t σ H λx H'=>WBl x H' Q
section
variable {X:Cx} {a b:Expr} {ta tb:TE} {pos:Pos}
def ao {op:CmpOp} {r:R2} (ho:bS X (compareOp op) r) (ha:PE X a ta) (hb:PE X b tb) (hm:behindInMarks op b=false):PT X (.Compare a [op] [b] pos) (rp (gT r ta tb)):=by
 intro pins s σ H Q I h;refine KA (aQ (ha pins s σ H _ I h) λv s1 ⟨x,H1,I1,r1,q1⟩=>aQ (hb pins s1 σ H1 _ I1 q1) λu s2 ⟨y,H2,I2,r2,q2⟩ =>
   aQ (ho pins s2 σ H2 x y v u _ I2 r1 r2 q2) λc s3 z153_=>z153_.e λz H3 I3 r3 w=>?_) hm
 let#[k,e,q3]:=w;subst e;cases r3;exact JH #[H3,I3,q3]
def cM {e:Expr} {t:TE} (h:PE X e t) (he:∀whole,isTrue e X.env whole=(do let v <- whole; standAt e.pos; holding [v] (truthy v)):=by intro _; rfl):PT X e (rp t):=by intro pins s σ H Q I hw;refine isTrue_plain (aQ (h pins s σ H _ I hw) λv s1 z154_=>?_) (he _);let#[x,H1,I1,r1,q1]:=z154_;let#[d,rfl,q]:=q1;cases r1;exact JH #[H1,I1,q]
end
abbrev DW (t u:TS):TS:=λD σ H=>∃M:St->Hp->Prop,t { D with nx:=M } σ H/\∀σ' H',M σ' H'->u D σ' H'
def gN {X:Cx} {st:Stmt} {rest:List Stmt} {t u:TS} (h1:PS X st t) (h2:aO X rest u):aO X (st::rest) (DW t u):=FN h1 h2
end L2
namespace Ex
open PySem PySem.W PyProof.Rows PySem.Spec
variable {rest:List K'}
section
variable {prog:Program} {w:World} {A:Around} {E:K'->L5->Prop} {R:Result->L5->Prop} {h:Heap} {g:Array GenState} {d:Drawn} {t:Nat} {os:OsState}
 {nm q:Str} {C N:L6} {bs bm:List K'} {hdct:Bool} {sn:List Str} {sub:List K'} {ab:Bool} {col:Hl Bool} {dd:Hl L6} {k0 k1 k2 k3 k5:Hl K'}
structure VE (C:Addr) (bm:List Value):Prop where
 b:(Value.ref C::bm).contains (.type "ValueError")=true
 e:(Value.ref C::bm).contains (.type "BaseException")=true
 a:(Value.ref C::bm).contains (.type "AttributeError")=false
 n:(Value.ref C::bm).contains (.type "NameError")=false
def Dc {M:Model} (hC:h.get? C=⇑(excClassObj nm q C N bs bm hdct sn sub ab col dd k0 k1 k2 k3 k5 "ValueError.__new__")) (V:VE C bm) {Q:Unit->L5->Prop}
   (hq:Q () #[h,g,d,t,os]):wpAny M A (checkBuiltinCall "ValueError.__new__" #[↥C::rest,[]]) Q E #[h,g,d,t,os]:=by
 have F:=J4;have v:=V.b;have st:=F.noStar;simp only[checkBuiltinCall,F.newKind,F.newSplit,F.newRow]
 repeat (first|refine Iz hC ?_|(refine Jd hC ?_; rw[v])|refine wpAny_staticBase_exc hC ?_|refine wpAny_madeBy_exc hC ?_|simp only[bne_self_eq_false,JA,if_false] | wp_step)
 exact hq
abbrev jL (h:Heap) (C:L6) (rest:List K'):Heap:=(h.push { cls:=.type "tuple",data:=.seq rest.toArray }).push { cls:=↥C,data:=.fields (List.toArray [↥h.objs.size,.none,.none,.none,.bool false,.none]) }
def heapX_keeps :∀b o,h.get? b=⇑o->(jL h C rest).get? b=⇑o:=λ_ _ e=>HW _ (HW _ e)
def heapX_at :(jL h C rest).get? (h.objs.size+1)=some { cls:=↥C,data:=.fields (List.toArray [↥h.objs.size,.none,.none,.none,.bool false,.none]) }:=by unfold jL; heap_get
def AH (hC:h.get? C=⇑(excClassObj nm q C N bs bm hdct sn sub ab col dd k0 k1 k2 k3 k5 "ValueError.__new__")) (V:VE C bm) (hz:rest.length<=sizeLine)
   (hq:R (.ok (.ret ↥(h.objs.size+1))) #[jL h C rest,g,d,t,os]):codeAny 0x6 A (.builtin "ValueError.__new__" #[↥C::rest,[]]) R #[h,g,d,t,os]:=by
 have F:=J4;have en:=F.ends;have vb:=V.b;have va:=V.a;have vn:=V.n;refine codeAny_builtinAt F.entry ?_;unfold Builtin.«BaseException.__new__»;refine PySem.wpAt_bind ?_;show PySem.wpAt _ _ _ (stack >>= _) _ _ _;refine PySem.wpAt_bind (PySem.wpAt_stack λp below=>PySem.wpAt_of_wpAny ?_)
 wp_walk
 refine PySem.wpAt_of_wpAny ?_;rw[F.owner]
 repeat (first|with_reducible refine wpAny_madeHere_exc F.canon hC ?_|with_reducible refine Iz hC ?_|(with_reducible refine Jd hC ?_; first|rw[vb] | rw[va] | rw[vn])|wp_step)
 show R _ _;rw[Iy];exact hq
def AV (hC:h.get? C=⇑(excClassObj nm q C N bs bm hdct sn sub ab col dd k0 k1 k2 k3 k5 "ValueError.__new__")) (V:VE C bm) (hz:rest.length<=sizeLine) {fI:K'}
   (hi:Looks 0x6 h (typeLookup ↥C "__init__") ⇑fI) (hb:Looks 0x6 h (bindSpecial fI ↥(h.objs.size+1)) (fI,[↥(h.objs.size+1)])) {Q:Fin->L5->Prop}
   (hq:wpAny 0x6 A (call fI (↥(h.objs.size+1)::rest)) (λr s'=>r=.none/\Q (.done (.ret ↥(h.objs.size+1))) s') E #[jL h C rest,g,d,t,os]) :
   wpAny 0x6 A (Builtin.«type.__call__» #[↥C::rest,[]]) Q E #[h,g,d,t,os]:=by
 repeat (first|with_reducible refine Iz hC ?_|with_reducible refine wpAny_madeBy_exc hC ?_|wp_step)
 refine codeAny_call_builtin_code (Code.quiet_builtin _ J4.quiet) (Dc hC V ?_);refine AH hC V hz ?_;show wpAny _ _ _ _ _ _;have hC1:=heapX_keeps (C:=C) (rest:=rest) _ _ hC;have hg:=heapX_at (h:=h) (C:=C) (rest:=rest);have hcC:(Value.ref C::bm).contains ↥C=true:=by simp
 have i1:=hi.keeps (heapX_keeps (C:=C) (rest:=rest));have b1:=hb.keeps (heapX_keeps (C:=C) (rest:=rest));unfold isInstance
 repeat (first|with_reducible refine Iz hg ?_|(with_reducible refine Jd hC1 ?_; rw[hcC])|wp_step)
 show wpAny _ _ (typeLookup ↥C _) _ _ _;refine i1.at ?_;refine IW (HR ?_);refine b1.at ?_;refine HR (Il hq (λr s' hr=>?_) λ_ _ x=>x);let#[rfl,hQ]:=hr
 wp_walk
 exact hQ
def x_call (hC:h.get? C=⇑(excClassObj nm q C N bs bm hdct sn sub ab col dd k0 k1 k2 k3 k5 "ValueError.__new__")) (V:VE C bm) (hz:rest.length<=sizeLine) {fI:K'}
   (hi:Looks 0x6 h (typeLookup ↥C "__init__") ⇑fI) (hb:Looks 0x6 h (bindSpecial fI ↥(h.objs.size+1)) (fI,[↥(h.objs.size+1)])) {Q:K'->L5->Prop}
   (hq:wpAny 0x6 (A.under (.builtin "type.__call__" #[↥C::rest,[]])) (call fI (↥(h.objs.size+1)::rest)) (λr s'=>r=.none/\Q ↥(h.objs.size+1) s') E #[jL h C rest,g,d,t,os]) :
   wpAny 0x6 A (call ↥C rest) Q E #[h,g,d,t,os]:=by
 have f1:=tc_lookup;have f2:=tc_bind ↥C;have hT:(⟨h,g,d,t,os⟩:L5).TypeIs ↥C "type":=#[_,hC,rfl]
 refine Jp (codeAny_of_tree ?_);show wpAny _ _ (callAny ↥C _) _ _ _
 repeat (any_goals (first|assumption|with_reducible refine Iz hC ?_|wp_step))
 show#[rfl,?_];exact codeAny_call_builtin_at (Code.quiet_builtin _ 0x7) entry_typeCall (wpAny_check_type_call_sub hC (AV hC V hz hi hb hq))
def x_raise {M:Model} {env:Env} {s:L5} {x:Sem K'} {Q:Flow->L5->Prop} (hh:A.handled=none)
   (hx:wpAny M A x (λv s₁=>∃e o vs,v=↥e/\s₁.heap.get? C=⇑(excClassObj nm q C N bs bm hdct sn sub ab col dd k0 k1 k2 k3 k5 "ValueError.__new__")/\VE C bm /\
     s₁.heap.get? e=⇑o/\o.cls=↥C/\o.data=.fields vs/\vs[1]?=some .none/\E ↥e s₁) E s):wpAny M A (raiseStmt env ⇑x none) Q E s:=by
 unfold raiseStmt;refine HR (Il hx (λv s₁ h₁=>?_) λ_ _ x=>x);let#[e,o,vs,rfl,hC,V,he,hc,hd,h1,hE]:=h₁;let#[hp,g,d,tk,os]:=s₁;let#[oc,od,oda,osl]:=o;dsimp only at hc hd;subst hc hd;have ve:=V.e
 repeat (first|with_reducible refine Iz he ?_|with_reducible refine Iz hC ?_|(with_reducible refine Jd hC ?_; rw[ve])|wp_step)
 rw[h1];refine Ha ?_;rw[HX #[]];exact Ha (wpAny_raiseNew_none hh hE)
end
end Ex
namespace Ex
open PySem PySem.W PyProof.Rows PySem.Spec L2
structure Mvd (S:List Addr) (D:Addr->Prop) (h h':Heap):Prop where
 keep:∀b o,¬ D b->b ∉ S->h.get? b=⇑o->h'.get? b=⇑o
 slot:∀b o,¬ D b->h.get? b=⇑o->∃sl,h'.get? b=some { o with slots:=sl }
def Mvd.trans {S:List L6} {D:L6->Prop} {h h1 h2:Heap} (a:Mvd S D h h1) (b:Mvd S D h1 h2):Mvd S D h h2 :=
 #[λc o n m e=>b.keep c o n m (a.keep c o n m e),λc o n e=>by let#[sl,e1]:=a.slot c o n e;let#[sl2,e2]:=b.slot c _ n e1;show#[sl2,e2]]
def Mvd.mono {S:List L6} {D D':L6->Prop} {h h':Heap} (a:Mvd S D h h') (hd:∀b,D b->D' b):Mvd S D' h h':=#[λb o n=>a.keep b o λz=>n (hd b z),λb o n=>a.slot b o λz=>n (hd b z)]
abbrev Tr (h:Heap) (e:L6) (cls:K') (d:Hl L6) (T:L6) (fl:K'):Prop :=
 ∃o vs oT ts,h.get? e=⇑o/\o.cls=cls/\o.dict=d/\o.data=.fields vs/\vs[1]?=⇑↥T/\T≠e/\h.get? T=⇑oT/\oT.data=.fields ts/\ts[3]?=⇑fl
abbrev Raw (h:Heap) (e:L6) (cls:K') (d:Hl L6):Prop:=∃o vs,h.get? e=⇑o/\o.cls=cls/\o.dict=d/\o.data=.fields vs/\vs[1]?=some .none
section
variable {M:Model} {A:Around} {E:K'->L5->Prop} {s:L5} {base:Heap} {env:Env} {outer:List Env} {L e:L6} {cls:K'} {d:Hl L6}
def uJ (f:Array K'->Array K') {o:Obj} {vs:Array K'} (hd:o.data=.fields vs):Obj.mapFields f o={ o with data:=.fields (f vs) }:=by let#[c,d,dt,sl]:=o;dsimp only at hd;subst hd;rfl
def ur {oe:Obj} {vs:Array K'} {head:K'} {hadNext:Bool} {Q:Unit->L5->Prop} (hfr:A.frames=⇑(env::outer)) (hl:s.heap.FunFrames base (env::outer)) (hf:env.frame=⇑L)
   (he:s.heap.get? e=⇑oe) (hd:oe.data=.fields vs) (hsz:1<vs.size)
   (h:∀h' T,s.heap.get? T=none->Mvd (cJ (env::outer)) (λb=>b=e) s.heap h'->Tr h' e oe.cls oe.dict T (rawInt L)->Q () { s with heap:=h' }) :
   wpAny M A (do let a <- frameOf env; let pl <- entryPlaceOf L hadNext; let b <- EntryCells.newEntry head a .none (rawInt L) .none pl; setField ↥e 1 b) Q E s:=by
 have hene:e ∉ cJ (env::outer):=λhm=>by let#[_,o,ho,hnf]:=hl.mem hm;rw[he] at ho; cases ho; exact hnf vs hd
 refine HR (wpAny_frameOf_fun hfr hl hf λh₁ hs₁=>?_);refine HR (wpAny_entryPlaceOf λpl hpl=>?_);unfold EntryCells.newEntry newFields;refine HR (J1 ?_ (hpl.sizeOk5 _ _ _ _ _));have he₁:h₁.get? e=⇑oe:=(hs₁.2.1 e hene)\he;have he₂:=HW (h:=h₁) { cls:=.type "traceback",dict:=none,data:=.fields ([head,↥L,.none,rawInt L,.none]++(if pl.isEmpty then List.replicate 6 Value.none else pl)).toArray } he₁;refine Jz he₂ hd hsz (h _ h₁.objs.size (Jo (by rw[hs₁.1]; exact HY _)) ?_ ?_)
 . show#[λb o hb hm hbo=>?_,λb o hb hbo=>?_]
   . rw[Ip _ _ (Ne.symm hb)];exact HW _ ((hs₁.2.1 b hm)\hbo)
   . let#[sl,e1]:=hs₁.2.2 b o hbo;show#[sl,?_];rw[Ip _ _ (Ne.symm hb)];exact HW _ e1
 . have hTe:h₁.objs.size≠e:=JC (Hm he₁);have hd₃:=Obj.data_mapFields hd (·.setIfInBounds 1 (Value.ref h₁.objs.size));have he₃:=J8 (Obj.mapFields (·.setIfInBounds 1 (Value.ref h₁.objs.size))) he₂ (Obj.isFreed_of_fields hd₃);have hT₃:=(Ip (h₁.push { cls:=.type "traceback",dict:=none,data:=.fields ([head,↥L,.none,rawInt L,.none]++(if pl.isEmpty then List.replicate 6 Value.none else pl)).toArray })
     (Obj.mapFields (·.setIfInBounds 1 (Value.ref h₁.objs.size))) (Ne.symm hTe))\(Hs h₁ rfl)
   show#[16,he₃,?_,?_,hd₃,by simp [hsz],hTe,hT₃,rfl,by first|(simp; done)|(rcases hpl with rfl|⟨_,_,_,_,_,_,_,rfl⟩ <;> simp)]
   . rw[uJ _ hd]
   . rw[uJ _ hd]
def x_mark {T:L6} {fl:K'} {fr:Hl L6} {Q:Unit->L5->Prop} (ht:Tr s.heap e cls d T fl)
   (h:∀h',Mvd [] (λb=>b=T) s.heap h'->Tr h' e cls d T (fr.elim .none λf=>rawInt f)->Q () { s with heap:=h' }):wpAny M A (setFlight ↥e fr) Q E s:=by
 let#[o,vs,oT,ts,he,hc,hdc,hd,h1,hTe,hT,hdT,h3]:=ht;have hsz:3<ts.size:=(JW.mp h3).1;unfold setFlight;refine HR (IR he hd h1 ?_);rw[He (show(Value.ref T != Value.none)=true from by simp)];have other:∀(g:Obj->Obj) (b:L6),b≠T->(s.heap.update T g).get? b=s.heap.get? b:=λg b hb=>Ip _ _ (Ne.symm hb);refine Jz hT hdT hsz (h _ #[λb o hb _ hbo=>(other _ b hb)\hbo,λb o hb hbo=>#[o.slots,(other _ b hb)\hbo]] ?_);show#[o,vs,4,(other _ e (Ne.symm hTe))\he,hc,hdc,hd,h1,hTe,J8 _ hT (Obj.isFreed_of_fields (Obj.data_mapFields hdT _)),Obj.data_mapFields hdT _,by simp [hsz]]
def x_noteR {Q:Unit->L5->Prop} (hfr:A.frames=⇑(env::outer)) (hl:s.heap.FunFrames base (env::outer)) (hf:env.frame=⇑L) (hr:Raw s.heap e cls d)
   (h:∀h' T,s.heap.get? T=none->Mvd (cJ (env::outer)) (λb=>b=e) s.heap h'->Tr h' e cls d T (rawInt L)->Q () { s with heap:=h' }):wpAny M A (noteFrame ↥e env) Q E s:=by
 let#[o,vs,he,rfl,rfl,hd,h1]:=hr;unfold noteFrame;simp only[hf];refine HR (IR he hd h1 ?_);rw[HX #[]];exact ur hfr hl hf he hd (JW.mp h1).1 h
def x_noteT {T0:L6} {Q:Unit->L5->Prop} (hfr:A.frames=⇑(env::outer)) (hl:s.heap.FunFrames base (env::outer)) (hf:env.frame=⇑L) (hr:Tr s.heap e cls d T0 .none)
   (h:∀h' T,s.heap.get? T=none->Mvd (cJ (env::outer)) (λb=>b=e\/b=T0) s.heap h'->Tr h' e cls d T (rawInt L)->Q () { s with heap:=h' }):wpAny M A (noteFrame ↥e env) Q E s:=by
 let#[o,vs,oT,ts,he,rfl,rfl,hd,h1,hTe,hT,hdT,h3]:=hr;unfold noteFrame;simp only[hf];refine HR (IR he hd h1 ?_);rw[He (show(Value.ref T0 != Value.none)=true from by simp)];refine HR (IR hT hdT h3 ?_);rw[HX (show ¬ ((Value.none==rawInt L)=true) from by simp [rawInt])];refine HR (Jz hT hdT (JW.mp h3).1 ?_);have other:∀(g:Obj->Obj) (b:L6),b≠T0->(s.heap.update T0 g).get? b=s.heap.get? b:=λg b hb=>Ip _ _ (Ne.symm hb);have noT:∀b o,s.heap.get? b=⇑o->(∀vs,o.data≠.fields vs)->b≠T0:=λb o hb hnf q=>by rw[q,hT] at hb; cases hb; exact hnf ts hdT
 have m1:Mvd (cJ (env::outer)) (λb=>b=e\/b=T0) s.heap (s.heap.update T0 (Obj.mapFields (·.setIfInBounds 3 Value.none))) :=
   #[λb o hb _ hbo=>(other _ b λz=>hb (.inr z))\hbo,λb o hb hbo=>#[o.slots,(other _ b λz=>hb (.inr z))\hbo]]
 have hl2:(s.heap.update T0 (Obj.mapFields (·.setIfInBounds 3 Value.none))).FunFrames base (env::outer):=hl.of_keeps λb o hb hnf=>#[o,(other _ b (noT b o hb hnf))\hb,rfl]
 refine ur (s:={ s with heap:=s.heap.update T0 (Obj.mapFields (·.setIfInBounds 3 Value.none)) }) hfr hl2 hf ((other _ e (Ne.symm hTe))\he) hd (JW.mp h1).1 λh' T hT' m2 tr=>h h' T ?_ (m1\(m2.mono λb z=>.inl z)) tr;by_cases z:T=T0
 . subst z;exfalso;have q:=J8 (Obj.mapFields (·.setIfInBounds 3 Value.none)) hT (Obj.isFreed_of_fields (Obj.data_mapFields hdT _));dsimp only at hT';rw[q] at hT'; cases hT'
 . dsimp only at hT';rwa [other _ T z] at hT'
end
end Ex
namespace L2
open PySem PySem.Spec PyProof.Rows
abbrev XO (e C:L6) (d:Hl L6):HO:=.ext λh=>∃t,h.get? e=some { cls:=↥C,dict:=d,data:=.fields (List.toArray [↥t,.none,.none,.none,.bool false,.none]) }
abbrev XC (e C:L6) (d:Hl L6):HO:=.ext λh=>∃o vs,h.get? e=⇑o/\o.cls=↥C/\o.dict=d/\o.data=.fields vs
abbrev rY (K:L7) (C:L6):Prop:=∃(nm q:Str) (N:L6) (bs bm:List K') (sn:List Str) (sub:List K') (ab:Bool) (col:Hl Bool) (dd:Hl L6) (k0 k1 k2 k3 k5:Hl K'),
 K.lookup C=⇑(excClassObj nm q C N bs bm true sn sub ab col dd k0 k1 k2 k3 k5 "ValueError.__new__")/\Ex.VE C bm
abbrev c9 (P:Program) (w:World):eF:=λouter H s E e s'=>∃ea cls d T H',e=↥ea/\s'.os=s.os/\AllBare s'.gens/\Un (cJ outer) [] H H' s.heap s'.heap/\bE P w H' s'.heap /\
 s.heap.get? ea=none/\H' ea=none/\s.heap.get? T=none/\H' T=none/\Ex.Tr s'.heap ea cls d T .none/\E cls d H'
section
variable {P:Program} {w:World} {H H':Hp} {h h':Heap} {a:L6} {o:HO} {fs S:List L6} {D:L6->Prop} {H0:Hp} {h0:Heap}
def bX.some_at (x:bX P w H h a o):∃u,h.get? a=⇑u:=by
 cases o with
 | lst xs=>let#[_,_,_,_,e]:=x; show#[_,e]
 | tup xs=>let#[_,_,_,ob,e,_]:=x; show#[_,e]
 | dK kvs=>let#[_,_,_,_,o,_,_,e,_]:=x; show#[_,e]
 | dT kvs=>let#[_,_,_,_,o,_,_,e,_]:=x; show#[_,e]
 | set S n=>let#[o,_,_,_,e,_]:=x; show#[_,e]
 | ins C dx fs=>let#[_,_,_,e,_]:=x; show#[_,e]
 | own y=>exact x
 | xd fs=>obtain⟨_,⟨_,_,_,e,_⟩,_⟩:=x; show#[_,e]
 | rng lo hi=>let#[_,_,_,e]:=x; show#[_,e]
 | frz ob u=>let#[e,_]:=x; show#[_,e]
 | tbl ps=>show#[_,(show h.get? a=⇑_ from x)]
 | met f y=>show#[_,(show h.get? a=⇑_ from x)]
 | ext φ=>exact x.2.1
def bE.none_of (x:bE P w H h) (e:h.get? a=none):H a=none:=by
 cases q:H a with
 | none=>rfl
 | some u=>let#[v,z]:=(x a u q).some_at; rw[e] at z; cases z
def Un.moved (u:Un fs [] H0 H h0 h) (m:Ex.Mvd S D h h') (hD:∀b,D b->h0.get? b=none) (hS:∀b∈S,b∈fs\/h0.get? b=none):Un fs [] H0 H h0 h' where
 keep:=λb o q n hb hx=>m.keep b o (λz=>by rw[hD b z] at q; cases q) (λz=>(hS b z).elim hb λr=>by rw[r] at q; cases q) (u.keep b o q n hb hx)
 slot:=λb o q n hb hx=>by let#[sl,e]:=u.slot b o q n hb hx;let#[sl2,e2]:=m.slot b _ (λz=>by rw[hD b z] at q; cases q) e;show#[sl2,e2]
 free:=u.free
 there:=λb o q hx=>by let#[o',e]:=u.there b o q hx;let#[sl2,e2]:=m.slot b _ (λz=>by rw[hD b z] at q; cases q) e;show#[_,e2]
 tups:=u.tups
 frzs:=u.frzs
 tbls:=u.tbls
def bE.moved (x:bE P w H h) (m:Ex.Mvd S D h h') (hD:∀b,D b->H b=none) (hS:∀b∈S,H b=none):bE P w H h':=λa o e =>
 (x a o e).stay (λb u hb q=>by
   have t:∃z,H b=⇑z:=by
     rcases hb with rfl|hb
     . show#[_,e]
     . show#[_,hb]
   let#[z,t]:=t;exact m.keep b u (λy=>by rw[hD b y] at t; cases t) (λy=>by rw[hS b y] at t; cases t) q) (λ_ q=>q) λ_ _ q=>q
def Un.ers {φ:Heap->Prop} (u:Un fs [] H0 H h0 h) (e:H a=⇑(.ext φ)):Un fs [] H0 (ers a H) h0 h where
 keep:=u.keep
 slot:=u.slot
 free:=λb o q n hx=>by
   have r:=u.free b o q n hx;unfold L2.ers;split
   . rfl
   . exact r
 there:=u.there
 tups:=λb xs q=>by have r:=u.tups b xs q;rw[ak (λz=>by rw[z,e] at r; cases r)]; exact r
 frzs:=λb o xs q=>by have r:=u.frzs b o xs q;rw[ak (λz=>by rw[z,e] at r; cases r)]; exact r
 tbls:=λb ps q=>by let#[m,r]:=u.tbls b ps q;show#[m,by rw[ak (λz=>by rw[z,e] at r; cases r)]; exact r]
def bE.ers {φ:Heap->Prop} (x:bE P w H h) (e:H a=⇑(.ext φ)):bE P w (ers a H) h:=λb o q=>by
 have hb:b≠a:=λz=>by subst z; unfold L2.ers at q; rw[He rfl] at q; cases q
 rw[ak hb] at q;exact(x b o q).stay (λc u _ r=>r) (λc r=>by rw[ak (λz=>by rw[z,e] at r; cases r)]; exact r) λc xs r=>by rw[ak (λz=>by rw[z,e] at r; cases r)]; exact r
end
def mE {S S':List L6} {D:L6->Prop} {h h':Heap} (m:Ex.Mvd S D h h') (hs:∀b∈S,b∈S'):Ex.Mvd S' D h h':=#[λb o n z=>m.keep b o n λq=>z (hs b q),m.slot]
section
variable {P:Program} {w:World} {K:L7} {mg:Str->Hl K'} {base:Heap} {N:List Str} {qual:Str} {sc:Scope} {f:L6} {cd:K'} {A:Around} {outer:List Env} {s0 s:L5} {H0 H:Hp} {E:XK}
 {pins:List (L6×Obj)} {σ:St} {cls:K'} {d:Hl L6} {e:L6}
def sk {h2:Heap} {T:L6} {D:L6->Prop} {S:List L6} (I:Inv (cY (c9 P w) P w K mg base N qual sc f cd A outer s0 H0 E) pins σ H s) {H1:Hp} (hn:s0.heap.get? e=none) (hT:s.heap.get? T=none)
   (u:Un (cJ outer) [] H0 H1 s0.heap s.heap) (hok:bE P w H1 s.heap) (he1:H1 e=none) (hS:S=cJ (cY (c9 P w) P w K mg base N qual sc f cd A outer s0 H0 E).stack) (hS1:∀b∈S,H1 b=none)
   (m:Ex.Mvd S D s.heap h2) (hD0:∀b,D b->s0.heap.get? b=none) (hD1:∀b,D b->H1 b=none)
   (t:Ex.Tr h2 e cls d T .none) (hE:E cls d H1):c9 P w outer H0 s0 E ↥e { s with heap:=h2 }:=by
 have fresh:∀b,s.heap.get? b=none->s0.heap.get? b=none:=λb q=>by
   cases r:s0.heap.get? b with
   | none=>rfl
   | some o=>let#[o',z]:=u.there b o r 0x8; rw[q] at z; cases z
 show#[e,cls,d,T,H1,rfl,I.os,I.bare,u.moved m hD0 λb hb=>?_,hok.moved m hD1 hS1,hn,he1,fresh T hT,hok.none_of hT,t,hE];subst hS;rcases Hh.mp (I.stkSub b hb) with z|z
 . exact .inr (by rw[z]; exact Jo I.ok.above)
 . exact .inl z
def GK (I:Inv (cY (c9 P w) P w K mg base N qual sc f cd A outer s0 H0 E) pins σ H s) {φ:Heap->Prop} (he:H e=⇑(.ext φ)) (hn:s0.heap.get? e=none) (hr:Ex.Raw s.heap e cls d) (hE:E cls d (ers e H)) :
   (cY (c9 P w) P w K mg base N qual sc f cd A outer s0 H0 E).xe ↥e s:=by
 show wpAny _ _ (leaving _ _) _ _ s;unfold leaving;refine HR (Ex.x_noteR I.ok.frames I.stack rfl hr λh1 T hT m1 t1=>?_);refine Ex.x_mark (fr:=none) t1 λh2 m2 t2=>?_;have hfr:=I.stkFree;have fresh:∀b,s.heap.get? b=none->s0.heap.get? b=none:=λb q=>by
   cases r:s0.heap.get? b with
   | none=>rfl
   | some o=>let#[o',z]:=I.base.there b o r (λq=>nomatch q); rw[q] at z; cases z
 refine sk (s:=s) (D:=λb=>b=e\/b=T) (S:=cJ (cY (c9 P w) P w K mg base N qual sc f cd A outer s0 H0 E).stack) I hn hT (Un.ers I.base he) (bE.ers I.hok he) (He rfl) rfl (λb hb=>?_) ((m1.mono λb z=>.inl z)\(mE (m2.mono λb z=>.inr z) λb z=>nomatch z)) ?_ ?_ t2 hE
 . unfold L2.ers; split; rfl; exact hfr b hb
 . rintro b (rfl|rfl); exact hn; exact fresh _ hT
 . rintro b (rfl|rfl)
   . exact He rfl
   . exact(bE.ers I.hok he).none_of hT
def jt:fh (c9 P w) (cY (c9 P w) P w K mg base N qual sc f cd A outer s0 H0 E) E:=by
 intro pins σ H s ev s' I c;let#[e,cls,d,T0,H1,rfl,os,bare,un,hok,hn,he1,hT0,hT1,tr,hE]:=c;have I1:Inv (cY (c9 P w) P w K mg base N qual sc f cd A outer s0 H0 E) pins σ H1 s':=I.call' os un hok bare λb z=>nomatch z;show wpAny _ _ (leaving _ _) _ _ s';unfold leaving;refine HR (Ex.x_noteT I1.ok.frames I1.stack rfl tr λh1 T hT m1 t1=>?_);refine Ex.x_mark (fr:=none) t1 λh2 m2 t2=>?_;have fr0:∀b,s.heap.get? b=none->s0.heap.get? b=none:=λb q=>by
   cases r:s0.heap.get? b with
   | none=>rfl
   | some o=>let#[o',z]:=I.base.there b o r (λq=>nomatch q); rw[q] at z; cases z
 have fr1:∀b,s'.heap.get? b=none->s0.heap.get? b=none:=λb q=>by
   cases r:s0.heap.get? b with
   | none=>rfl
   | some o=>let#[o',z]:=I1.base.there b o r (λq=>nomatch q); rw[q] at z; cases z
 refine sk (s:=s') (D:=λb=>(b=e\/b=T0)\/b=T) (S:=cJ (cY (c9 P w) P w K mg base N qual sc f cd A outer s0 H0 E).stack) I1 (fr0 _ hn) hT I1.base I1.hok he1 rfl I1.stkFree ((m1.mono λb z=>.inl z)\(mE (m2.mono λb z=>.inr z) λb z=>nomatch z)) ?_ ?_ t2 hE
 . rintro b ((rfl|rfl)|rfl)
   . exact fr0 _ hn
   . exact fr0 _ hT0
   . exact fr1 _ hT
 . rintro b ((rfl|rfl)|rfl)
   . exact he1
   . exact hT1
   . exact I1.hok.none_of hT
def wS:PassesOwn (model P w) (cY (c9 P w) P w K mg base N qual sc f cd A outer s0 H0 E).A (cY (c9 P w) P w K mg base N qual sc f cd A outer s0 H0 E).env (cY (c9 P w) P w K mg base N qual sc f cd A outer s0 H0 E).xe:=PassesOwn.leaving
end
abbrev pq (X:Cx) (EX:XK):Prop:=∀(pins:List (L6×Obj)) (σ:St) (H:Hp) (s:L5) (e:L6) (φ:Heap->Prop) (cls:K') (d:Hl L6),
 Inv X pins σ H s->H e=⇑(.ext φ)->X.s₀.heap.get? e=none->Ex.Raw s.heap e cls d->EX cls d (ers e H)->X.xe ↥e s
def pc {P:Program} {w:World} {K:L7} {mg:Str->Hl K'} {base:Heap} {N:List Str} {qual:Str} {sc:Scope} {f:L6} {cd:K'} {A:Around} {outer:List Env} {s0:L5} {H0:Hp} {E:XK} :
   pq (cY (c9 P w) P w K mg base N qual sc f cd A outer s0 H0 E) E:=λ_ _ _ _ _ _ _ _ I he hn hr hE=>GK I he hn hr hE
def Gv {P:Program} {w:World} {H:Hp} {h:Heap} {e C:L6} {d:Hl L6} {t:L6} (q:h.get? e=some { cls:=↥C,dict:=d,data:=.fields (List.toArray [↥t,.none,.none,.none,.bool false,.none]) }):bX P w H h e (XO e C d) :=
 #[#[t,q],#[_,q],λh1 h2 z155_ k=>by let#[u,z]:=z155_; show#[u,k _ z]]
def Eg {P:Program} {w:World} {H:Hp} {h:Heap} {e C:L6} {d:Hl L6} {o:Obj} {vs:Array K'} (q:h.get? e=⇑o) (hc:o.cls=↥C) (hd:o.dict=d) (hf:o.data=.fields vs):bX P w H h e (XC e C d) :=
 #[#[o,vs,q,hc,hd,hf],#[_,q],λh1 h2 z156_ k=>by let#[o,vs,z,r]:=z156_; show#[o,vs,k _ z,r]]
end L2
namespace Ex
open PySem PySem.W PyProof.Rows PySem.Spec
section
variable {prog:Program} {w:World} {A:Around} {E:K'->L5->Prop} {R:Result->L5->Prop} {h:Heap} {g:Array GenState} {d:Drawn} {t:Nat} {os:OsState}
 {nm q:Str} {C N:L6} {bs bm:List K'} {hdct:Bool} {sn:List Str} {sub:List K'} {ab:Bool} {col:Hl Bool} {dd:Hl L6} {k0 k1 k2 k3 k5:Hl K'}
def x_init0 {e t0:L6} {Q:K'->L5->Prop} (hC:h.get? C=⇑(excClassObj nm q C N bs bm hdct sn sub ab col dd k0 k1 k2 k3 k5 "ValueError.__new__")) (V:VE C bm)
   (he:h.get? e=some { cls:=↥C,data:=.fields (List.toArray [↥t0,.none,.none,.none,.bool false,.none]) })
   (hq:∀h' t',(∀b o,b≠e->h.get? b=⇑o->h'.get? b=⇑o)->h'.get? e=some { cls:=↥C,data:=.fields (List.toArray [↥t',.none,.none,.none,.bool false,.none]) }->Q .none #[h',g,d,t,os]) :
   wpAny 0x6 A (call (.builtin "ValueError.__init__") [↥e]) Q E #[h,g,d,t,os]:=by
 have F:=J4;have vb:=V.b;have st:=F.noStar;refine Jp (codeAny_call_builtin F.init.plain F.initEntry ?_);simp only[checkBuiltinCall,F.initKind,F.initSplit,F.initRow]
 repeat (first|with_reducible refine Iz he ?_|with_reducible refine Iz hC ?_|(with_reducible refine Jd hC ?_; rw[vb])|wp_step)
 show Q _ _;refine hq _ h.objs.size (λb o hb hbo=>?_) ?_
 . rw[Ip _ _ (Ne.symm hb)];exact HW _ hbo
 . rw[J8 _ (HW _ he) rfl];rfl
end
end Ex
namespace L2
open PySem PySem.Spec PyProof.Rows
abbrev rf (C:L6) (EX:XK):TS:=λ_ _ H=>EX ↥C none H
section
variable {X:Cx} {C:L6} {EX:XK} {x:Str} {p pos cpos:Pos}
def Gb (hX:rY X.K C) (hm:X.mg x=⇑↥C) (hi:PySem.W.findIn X.K ↥C "__init__"=⇑⇑(.builtin "ValueError.__init__")) (hk:PySem.W.keepIn X.K ↥C=true)
   (hc:X.calm=true) (hx:pq X EX) (hg:Gl X x:=by rfl) (hdb:(x==("__debug__":Str))=false:=by decide) :
   PS X (.Raise ⇑(.Call (.Name x p) [] [] cpos) none pos) (rf C EX):=by
 intro pins s σ H D I h;let#[nm,q,N,bs,bm,sn,sub,ab,col,dd,k0,k1,k2,k3,k5,hl,VV]:=hX;rw[arm_exec_Raise];refine HR (Jr (Ex.x_raise (C:=C) (nm:=nm) (q:=q) (N:=N) (bs:=bs) (bm:=bm) (hdct:=true) (sn:=sn) (sub:=sub) (ab:=ab) (col:=col) (dd:=dd) (k0:=k0) (k1:=k1) (k2:=k2) (k3:=k3) (k5:=k5) (I.ok.hd hc) ?_));show wpAny _ _ (eval (.Call (.Name x p) [] [] cpos) X.env >>= λv=>standAt pos >>= λ_=>pure v) _ _ _;refine HR (Il (Q:=λv s₁=>∃e o vs,v=↥e/\s₁.heap.get? C=⇑(excClassObj nm q C N bs bm true sn sub ab col dd k0 k1 k2 k3 k5 "ValueError.__new__")/\Ex.VE C bm /\
     s₁.heap.get? e=⇑o/\o.cls=↥C/\o.data=.fields vs/\vs[1]?=some .none/\X.xe ↥e s₁) ?_ (λv s3 h3=>HR (Jr (Ha h3))) λ_ _ z=>z)
 refine JM (kr I hg hm ?_ hdb);refine PySem.W.callWith_K0 I.kIn hk ?_;let#[hp,g,dr,tk,os]:=s;refine Ex.x_call (fI:=.builtin "ValueError.__init__") (rest:=[]) (I.kIn _ _ hl) VV #[] (PySem.W.looks_findIn I.kIn hi) (PySem.W.Looks.of_pure (J4.init.bind _)) ?_;have hC2:=Ex.heapX_keeps (C:=C) (rest:=[]) _ _ (I.kIn _ _ hl);refine Ex.x_init0 hC2 VV Ex.heapX_at λh' t' hk' he'=>#[rfl,?_]
 have ne:∀b o,hp.get? b=⇑o->b≠hp.objs.size+1:=λb o z=>IG (Nat.lt_succ_of_lt (Hm z));have I2:Inv X pins σ (upd H (hp.objs.size+1) (XO (hp.objs.size+1) C none)) ⟨h',g,dr,tk,os⟩ :=
   I.laid (h':=h') (t':=tk) (λb u z=>hk' b u (ne b u z) (Ex.heapX_keeps b u z)) (Ja _) (Gv he')
 have eH:ers (hp.objs.size+1) (upd H (hp.objs.size+1) (XO (hp.objs.size+1) C none))=H:=by
   funext b;unfold L2.ers upd;by_cases z:b=hp.objs.size+1
   . rw[He z,z]; exact(I.hok.fresh (Ja _)).symm
   . rw[HX z,HX z]
 show#[17,I2.kIn _ _ hl,VV,he',15,hx pins σ _ #[h',g,dr,tk,os] (hp.objs.size+1) _ ↥C none I2 aI (Jo (Hu I.sz (Ja _))) #[4,he',31] (by rw[eH]; exact h)]
end
end L2
namespace Ex
open PySem PySem.W PyProof.Rows PySem.Spec
abbrev veTail:List K'->Bool
 | .ref _::r=>veTail r
 | l=>l==[.type "ValueError",.type "Exception",.type "BaseException",.type "object"]
def tK {p:List K'->Prop} (h0:p [.type "ValueError",.type "Exception",.type "BaseException",.type "object"]) (h1:∀a r,p r->p (↥a::r)):∀{l:List K'},veTail l=true->p l
 | [],e=>by cases e
 | c::r,e=>by
   cases c with
   | ref a=>exact h1 a r (tK h0 h1 e)
   | _=>rw[show _::r=_ from beq_iff_eq.mp e]; exact h0
def veTail_has {l:List K'} (h:veTail l=true) {X:String} {b:Bool} (hb:([.type "ValueError",.type "Exception",.type "BaseException",.type "object"]:List K').contains (.type X)=b):l.contains (.type X)=b :=
 tK (p:=λl=>l.contains (.type X)=b) hb (λa r z=>by rw[List.contains_cons,z]; rfl) h
def VE.of {C:L6} {bm:List K'} (h:veTail bm=true):VE C bm:=by have h':veTail (↥C::bm)=true:=h;show#[veTail_has h' 0x7,veTail_has h' 0x7,veTail_has h' 0x7,veTail_has h' 0x7]
end Ex
namespace L2
open PySem PySem.Spec PyProof.Rows
structure XClsOk (K:W.Frag) (mg:Str->Option Value) (name:Str) (C:Addr):Prop where
 g:mg name=⇑↥C
 obj:∃(nm q:Str) (N:Addr) (bs bm:List Value) (sn:List Str) (sub:List Value) (ab:Bool) (col:Option Bool) (dd:Option Addr) (k0 k1 k2 k3 k5:Option Value),
   K.lookup C=⇑(excClassObj nm q C N bs bm true sn sub ab col dd k0 k1 k2 k3 k5 "ValueError.__new__")/\Ex.veTail bm=true
 kp:PySem.W.keepIn K ↥C=true
 sa:PySem.W.findIn K ↥C "__setattr__"=⇑⇑(.builtin "object.__setattr__")
 ga:PySem.W.findIn K ↥C "__getattribute__"=⇑⇑(.builtin "BaseException.__getattribute__")
 gt:PySem.W.findIn K ↥C "__getattr__"=⇑none
 cl:PySem.W.findIn K ↥C "__class__"=⇑⇑(.builtin "object.__class__")
 sg:PySem.W.specialIn K (.builtin "object.__class__") "__get__"=⇑⇑(.builtin "getset_descriptor.__get__")
 tk:PySem.W.takesIn K (.builtin "object.__class__")=⇑true
variable {name:Str}
def XClsOk.cls {K:L7} {mg:Str->Hl K'} {C:L6} (c:XClsOk K mg name C):rY K C:=by let#[nm,q,N,bs,bm,sn,sub,ab,col,dd,k0,k1,k2,k3,k5,l,v]:=c.obj;show#[nm,q,N,bs,bm,sn,sub,ab,col,dd,k0,k1,k2,k3,k5,l,Ex.VE.of v]
def XClsOk.cd {K:L7} {mg:Str->Hl K'} {C:L6} (c:XClsOk K mg name C):∃cd,PySem.W.clsIn K C=⇑cd/\Ex.veTail cd.mro=true/\cd.hasDict=true/\∃bm,cd.mro=↥C::bm:=by let#[nm,q,N,bs,bm,sn,sub,ab,col,dd,k0,k1,k2,k3,k5,l,v]:=c.obj;show#[_,by unfold PySem.W.clsIn; rw[l],v,13]
def XClsOk.mro {K:L7} {mg:Str->Hl K'} {C:L6} (c:XClsOk K mg name C) {X:String} {b:Bool} (hb:([.type "ValueError",.type "Exception",.type "BaseException",.type "object"]:List K').contains (.type X)=b):PySem.W.mroIn K C (.type X)=⇑b:=by let#[cd,hcd,hv,_,bm,hm]:=c.cd;unfold PySem.W.mroIn;rw[hcd,Jc,HX (by rw[hm]; exact Ho),Ex.veTail_has hv hb]
end L2
namespace Ex
open PySem PySem.W PyProof.Rows PySem.Spec
section
variable {prog:Program} {w:World} {A:Around} {E:K'->L5->Prop} {K:Frag} {x C:L6} {ox:Obj} {od:Hl Obj} {h:Heap} {g:Array GenState} {d:Drawn} {t:Nat} {os:OsState}
def CV {tk:Tok} {R:Result->L5->Prop} (X:K.In h) (I:InstAt h x ox C od) (hb:mroIn K C (.type "BaseException")=⇑true) (ho:mroIn K C (.type "object")=⇑true)
   (hf:findObj K C od "__class__"=⇑(.bind (.builtin "getset_descriptor.__get__") (.builtin "object.__class__"))) (hq:R (.ok (.ret ↥C)) #[h,g,d,t,os]) :
   codeAny 0x6 A (.call (.builtin "BaseException.__getattribute__") #[[↥x,.str "__class__" tk],[]]) R #[h,g,d,t,os]:=by
 have hk:builtinKind "BaseException.__getattribute__"=some .slot:=by decide +kernel
 have hsp:splitId "BaseException.__getattribute__"=⇑("BaseException","__getattribute__"):=by decide +kernel
 have sub:Looks 0x6 h (isInstance ↥x (.type "BaseException")) true:=I.type.andThen (looks_mroIn X hb);have L0:=I.type (M:=model prog w);have L1:=looks_find (M:=model prog w) X I hf;refine codeAny_call_builtin KY.ga.plain PySem.F.entry_bexc_ga (@check_slot 0x6 _ _ #[h,g,d,t,os] "BaseException.__getattribute__" "BaseException" "__getattribute__" ↥x [.str "__class__" tk] [] _ hk hsp sub (PySem.F.args_bexc_ga ↥x (.str "__class__" tk)) ?_);unfold Builtin.«object.__getattribute__»;refine HR (Ha ?_);refine HR (Ha ?_);refine HR (L0.at ?_);refine HR (L1.at ?_);show wpAny _ _ (holding [.builtin "object.__class__"] (call (.builtin "getset_descriptor.__get__") [.builtin "object.__class__",↥x,↥C]) >>= ret) _ _ _;exact HR (IW (Jp (class_get (ox:=ox) (od:=od) X I ho (Ha hq))))
def xc_attr {Q:Hl K'->L5->Prop} (X:K.In h) (I:InstAt h x ox C od) (hb:mroIn K C (.type "BaseException")=⇑true) (ho:mroIn K C (.type "object")=⇑true)
   (hga:findIn K ↥C "__getattribute__"=⇑⇑(.builtin "BaseException.__getattribute__")) (hgt:findIn K ↥C "__getattr__"=⇑none)
   (hf:findObj K C od "__class__"=⇑(.bind (.builtin "getset_descriptor.__get__") (.builtin "object.__class__"))) (hq:Q ⇑↥C #[h,g,d,t+1,os]):wpAny 0x6 A (getAttr? ↥x "__class__") Q E #[h,g,d,t,os]:=by
 have L0:=I.type (M:=model prog w);have L1:=looks_findIn (M:=model prog w) X hga;have L2:=looks_findIn (M:=model prog w) X hgt;have f3:=KY.ga.bind ↥x;have hx0:(false&&onTheHeap (Value.builtin "BaseException.__getattribute__"))=false:=rfl;have hx2:(Value.builtin "BaseException.__getattribute__"==Value.builtin "object.__getattribute__")=false:=by decide +kernel
 have hx1:(onTheHeap (Value.ref C)&&Value.builtin "BaseException.__getattribute__"==Value.builtin "object.__getattribute__")=false:=by rw[hx2]; rfl
 unfold getAttr? getAttrBy? getAttrBy;refine HR (wpAny_mkText (HR (K7 (IW (HR (L0.at (HR (L1.at ?_))))))))
 repeat (any_goals (first|assumption|with_reducible refine L0.at ?_|with_reducible refine L1.at ?_|with_reducible refine L2.at ?_|wp_step))
 refine CV X I hb ho hf ?_;show wpAny _ _ (handedOut ↥C) _ _ _;exact Ha (Ha hq)
end
end Ex
namespace L2
open PySem PySem.Spec PyProof.Rows
abbrev nr (x C:L6) (h:Heap):Prop:=∃o vs,h.get? x=⇑o/\o.cls=↥C/\o.data=.fields vs/\(o.dict=none\/∃dx od,o.dict=⇑dx/\h.get? dx=⇑od)
def nr.inst {x C:L6} {h:Heap} (p:nr x C h):∃ox od,PySem.W.InstAt h x ox C od:=by
 obtain⟨o,vs,ho,hc,hd,z|⟨dx,od,z,q⟩⟩:=p
 . show#[o,none,ho,hc,by unfold PySem.W.notCls; rw[hd],by rw[z]; trivial]
 . show#[o,⇑od,ho,hc,by unfold PySem.W.notCls; rw[hd],by rw[z]; exact q]
def CB {K:L7} {mg:Str->Hl K'} {nm:Str} {x C:L6} (c:XClsOk K mg nm C):PySem.W.KitX K ↥x ↥C (nr x C) where
 ty:=λM h _ p=>by let#[ox,od,I]:=p.inst; exact I.type
 it:=λM h X _=>by let#[nm,q,N,bs,bm,sn,sub,ab,col,dd,k0,k1,k2,k3,k5,l,v]:=c.obj;intro A' Q' E' s' k q;unfold isType loadHead;exact HR (Kv (k _ _ (X _ _ l)) (Ha q))
 ne:=λh tp dd its n sl X htp=>by let#[nm,q,N,bs,bm,sn,sub,ab,col,dd',k0,k1,k2,k3,k5,l,v]:=c.obj;refine Bool.eq_false_iff.mpr λq=>?_;have e:C=tp:=Value.ref.inj (beq_iff_eq.mp q);subst e;have z:=Hr Obj.cls (Option.some.inj ((X _ _ l).symm.trans htp));exact absurd (Value.type.inj z) #[]
 ca:=λ{prog w A E Q s} X p hq=>by
   let#[ox,od,I]:=p.inst;let#[cd,hcd,_]:=c.cd;have hf:PySem.W.findObj K C od "__class__"=⇑(.bind (.builtin "getset_descriptor.__get__") (.builtin "object.__class__")):=by unfold PySem.W.findObj;rw[hcd,Jc,c.cl,Jc];simp [c.sg,c.tk]
   let#[hp,g,dr,tk,os]:=s;exact Ex.xc_attr X I (c.mro 0x7) (c.mro 0x7) c.ga c.gt hf hq
abbrev j8 (K:L7) (mg:Str->Hl K'):List V->Hp->VK->Prop:=λxs H Q=>∃a C d nm y u b,xs=[↥a,y]/\H a=⇑(XC a C d)/\(∀dx,d=⇑dx->∃o,H dx=⇑o)/\XClsOk K mg nm C/\aX y u/\PySem.W.kitOne K ↥C u=⇑b/\Q (.bl b) H
section
variable {X:Cx}
def C1 {pins:List (L6×Obj)} {σ:St} {H:Hp} {s:L5} {a C:L6} {d:Hl L6} (I:Inv X pins σ H s) (e:H a=⇑(XC a C d)) (hd:∀dx,d=⇑dx->∃o,H dx=⇑o):nr a C s.heap:=by
 let#[o,vs,ho,hc,hdd,hf]:=(I.hok _ _ e).1;show#[o,vs,ho,hc,hf,?_];cases d with
 | none=>exact .inl hdd
 | some dx =>
   let#[z,q]:=hd dx rfl;let#[u,r]:=(I.hok _ _ q).some_at;exact .inr #[dx,u,hdd,r]
def lE:aw X (.builtin "isinstance") (j8 X.K X.mg):=by
 intro pins s σ H xs us Q I r h;let#[a,C,d,nm,y,u,b,rfl,e,hd,c,ry,hk,q]:=h;let#[v,w',rfl,rx,rc]:=oV r;cases (show v=Value.ref a from rx);have hw:PySem.W.kitOne X.K ↥C w'=⇑b:=by
   cases y with
   | ref z=>cases (show w'=Value.ref z from rc); cases (show u=Value.ref z from ry); exact hk
   | ty z=>cases (show w'=Value.type z from rc); cases (show u=Value.type z from ry); exact hk
   | non=>cases (show w'=Value.none from rc); cases (show u=Value.none from ry); exact hk
   | bl z=>cases (show w'=Value.bool z from rc); cases (show u=Value.bool z from ry); exact hk
   | int z=>let#[t,rfl]:=ry; cases hk
   | str z=>let#[t,rfl]:=ry; cases hk
   | byt z=>let#[t,rfl]:=ry; cases hk
   | flt z=>let#[t,rfl]:=ry; cases hk
 exact PySem.W.kia_one (CB c) I.kIn (C1 I e hd) hw (λz=>nomatch z) λtk=>#[.bl b,H,I.tok _,rfl,q]
end
end L2
namespace Ex
open PySem PySem.W PyProof.Rows PySem.Spec
def x_match {M:Model} {A:Around} {E:K'->L5->Prop} {s:L5} {K:Frag} {e C G:L6} {Q:Bool->L5->Prop} (X:K.In s.heap) (ht:Looks M s.heap (typeOf ↥e) ↥C) (hG:typeIn K ↥G=⇑(.type "type"))
   (hi:Looks M s.heap (isType ↥G) true) (hb:mroIn K G (.type "BaseException")=⇑true) (hs:mroIn K C ↥G=⇑true) (h:Q true s):wpAny M A (excMatches ↥e ↥G) Q E s:=by
 let#[hp,g,d,tk,os]:=s;have L0:=looks_typeIn (M:=M) X hG;have L1:=looks_mroIn (M:=M) X hb;have L2:=looks_mroIn (M:=M) X hs;have f:=tc_notTuple;unfold excMatches isExcClass isInstance;refine HR (HR (L0.at ?_));rw[f];refine Ha ?_;simp only[JA,if_false];refine HR (Ha ?_);simp only[KE,Kx];refine HR (HR (HR (HR (hi.at ?_))));simp only[if_true];refine L1.at ?_;simp only[Bool.not_true,JA,if_false];refine Ha (Ha (HR (ht.at ?_)));refine HR (HR (HR (L2.at ?_)));simp only[if_true];exact Ha (Ha (Ha h))
end Ex
namespace L2
open PySem PySem.Spec PyProof.Rows
noncomputable abbrev TX:=St->Hp->VK->XK->Prop
abbrev PX (X:Cx) (e:Expr) (t:TX):Prop:=∀(pins:List (L6×Obj)) (s:L5) (σ:St) (H:Hp) (Q:VK) (E:XK),Inv X pins σ H s->t σ H Q E ->
 wpAny 0x3 X.A (eval e X.env) (EP X pins σ Q) (λev s'=>∃H1 s1,Inv X pins σ H1 s1/\c9 X.prog X.w X.stack H1 s1 E ev s') s
abbrev kP (X:Cx) (st:Stmt) (t:c6->XK->St->Hp->Prop):Prop:=∀(pins:List (L6×Obj)) (s:L5) (σ:St) (H:Hp) (D:c6) (E:XK),Inv X pins σ H s->t D E σ H ->
 wpAny 0x3 X.A (exec st X.env) (SP X pins D) (λev s'=>∃H1 s1,Inv X pins σ H1 s1/\c9 X.prog X.w X.stack H1 s1 E ev s') s
section
variable {X:Cx} {k:Nat} {f:L6} {fd:FuncData} {ps:List Str} {sp:Sp} {x:Str} {st:Stmt} {p pos:Pos} {e:Expr} {es:List Expr} {t:TA} {tx:TX}
def kU (he:PX X e tx) (hs:swapsWith e none pos.line X.env=pure false:=by rfl):kP X (.Expr e pos) (λD E σ H=>tx σ H (λ_ H'=>D.nx σ H') E):=by intro pins s σ H D E I h;exact wpAny_Expr_any (Il (he pins s σ H _ E I h) (λv s1 z164_=>by let#[x,H1,I1,r1,q1]:=z164_; show#[σ,H1,I1,q1]) λ_ _ z=>z) I.quiet hs
end
noncomputable abbrev Cx.hdl (X:Cx) (ea:L6):Cx:={ X with A:=X.A.mark ⇑↥ea,calm:=false }
variable {X:Cx} {H:Hp}
def Inv.hdl {pins:List (L6×Obj)} {σ:St} {s:L5} (I:Inv X pins σ H s) (ea:L6):Inv (X.hdl ea) pins σ H s :=
 #[#[I.ok.mod,I.ok.kind,I.ok.glob,I.ok.blt,I.ok.above,I.ok.inj,I.ok.has,I.ok.cab,λz=>Bool.noConfusion z,I.ok.frames,I.ok.stk,I.ok.exf,I.ok.bs,I.ok.bsz,I.ok.noex,I.ok.exfs,I.ok.funs,I.ok.frf],I.os,I.bare,I.base,I.loc,I.cell,I.free,I.freeC,I.pin,I.hok,I.len]
def Inv.unhdl {pins:List (L6×Obj)} {σ:St} {s:L5} {ea:L6} {E:K'->L5->Prop} (ok:X.Ok) (I:Inv ((X.hdl ea).wish E) pins σ H s):Inv X pins σ H s :=
 #[ok,I.os,I.bare,I.base,I.loc,I.cell,I.free,I.freeC,I.pin,I.hok,I.len]
def Inv.dropped {pins:List (L6×Obj)} {σ:St} {s:L5} {j:Nat} {n:Str} {m:Str->Hl K'} {h':Heap} {v:Hl K'} {t':Nat} (I:Inv X pins σ H s) (hN:X.N.Nodup) (hj:X.N[j]?=⇑n) (hk:X.env.kindOf n=some .local)
   (hm:∀(i:Nat) (x:Str) (v:V),X.N[i]?=⇑x->σ[i]?=⇑⇑v->jp X.env.scope x->∃u,aX v u/\vi X.env s.heap m x u) (hn0:s.heap.Ns X.env.locals m)
   (hn:h'.Ns X.env.locals (λx=>if x=n then v else m x)) (hs:Heap.SameBut X.env.locals s.heap h'):Inv X pins (σ.set j none) H { s with heap:=h',toks:=t' }:=by
 have cne:=I.cne;have lt:∀b o,X.s₀.heap.get? b=⇑o->b≠X.env.locals:=λb o e=>IG (IB (Hm e) I.ok.above);let#[oL,_,_,hoL,_]:=id hn0;show#[I.ok,I.os,I.bare,#[λb o e n hb hx=>(hs.2 b (lt b o e))\(I.base.keep b o e n hb hx),λb o e n hb hx=>?_,I.base.free,λb o e hx=>?_,I.base.tups,I.base.frzs,I.base.tbls],
   #[_,hn,λi y w e1 e2 e3=>?_],λy c e=>?_,I.free,I.freeC,λp hp=>?_,λb ob e=>?_,by rw[Je]; exact I.len]
 . let#[sl,e1]:=I.base.slot b o e n hb hx;show#[sl,(hs.2 b (lt b o e))\e1]
 . let#[o',e1]:=I.base.there b o e hx;show#[o',(hs.2 b (lt b o e))\e1]
 . have hij:j≠i:=λz=>by
     subst z;by_cases q:j<σ.length
     . rw[Jh q] at e2; cases e2
     . rw[Jm (by rw[Je]; lia)] at e2; cases e2
   rw[JB hij] at e2;let#[u,r,q]:=hm i y w e1 e2 e3;show#[u,r,?_];rcases q with⟨k,e⟩|⟨k,c,e,z⟩
   . have:y≠n:=λz=>hij (pB hN hj (z ▸ e1));exact .inl #[k,by show(if y=n then v else m y)=⇑u; rw[HX this]; exact e]
   . exact .inr #[k,c,e,z.sameBut hs (cne y c e)]
 . let#[w',z]:=I.cell y c e;show#[w',z.sameBut hs (cne y c e)]
 . let#[e,n,ne,nf,d]:=I.pin p hp;show#[(hs.2 p.1 ne)\e,n,ne,nf,d]
 . refine(I.hok b ob e).stay (λc w' hc q=>(hs.2 c ?_)\q) (λ_ q=>q) λ_ _ q=>q;rintro rfl;rcases hc with rfl|hc
   . rw[I.free] at e; cases e
   . rw[I.free] at hc; cases hc
def Un.track {fs:List L6} {H0:Hp}{h0 h:Heap} {a:L6} {o:HO} (u:Un fs [] H0 H h0 h) (n:h0.get? a=none) (e:H a=none):Un fs [] H0 (upd H a o) h0 h where
 keep:=u.keep
 slot:=u.slot
 free:=λb ob q z hx=>by rw[aM (λy=>by rw[y,n] at q; cases q)]; exact u.free b ob q z hx
 there:=u.there
 tups:=λb xs q=>by have r:=u.tups b xs q;rw[aM (cR r e)]; exact r
 frzs:=λb ob xs q=>by have r:=u.frzs b ob xs q;rw[aM (cR r e)]; exact r
 tbls:=λb ps q=>by let#[m,r]:=u.tbls b ps q;show#[m,by rw[aM (cR r e)]; exact r]
def bE.track {P:Program} {w:World} {h:Heap} {a:L6} {o:HO} (x:bE P w H h) (e:H a=none) (k:bX P w (upd H a o) h a o):bE P w (upd H a o) h:=λb u q=>by
 by_cases hb:b=a
 . subst hb; rw[aI] at q; cases q; exact k
 . rw[aM hb] at q;exact(x b u q).stay (λc v _ r=>r) (λc r=>by rw[aM (cR r e)]; exact r) λc xs r=>by rw[aM (cR r e)]; exact r
abbrev GD (K:L7) (mg:Str->Hl K') (G:L6) (j:Nat) (tb:c6->XK->St->Hp->Prop) (th:TS):TS:=λD σ H=>tb D (λcls d H'=>∃C nm,cls=↥C/\XClsOk K mg nm C/\PySem.W.mroIn K C ↥G=⇑true /\
 ∀ea,H' ea=none->th { nx:=λσ' H2=>D.nx (σ'.set j none) H2,rt:=D.rt,bk:=λσ' H2=>D.bk (σ'.set j none) H2,ct:=λσ' H2=>D.ct (σ'.set j none) H2 } (σ.set j ⇑↥ea) (upd H' ea (XC ea C d))) σ H
section
variable {X:Cx} {st b0:Stmt} {suite:List Stmt} {tb:c6->XK->St->Hp->Prop} {th:TS} {G:L6} {j:Nat} {c n:Str} {cp hp pos:Pos}
def wY (hN:X.N.Nodup) (hj:X.N[j]?=⇑n) (hk:X.env.scope.names.lookup n=some .local) (hG:XClsOk X.K X.mg c G) (hst:X.stack=X.env::X.outer) (hfr:X.env.frame=⇑X.env.locals)
   (hb:kP X st tb) (hh:∀ea,aO (X.hdl ea).nox (b0::suite) th) (hg:Gl X c:=by rfl) (hdb:(c==("__debug__":Str))=false:=by decide) :
   PS X (.Try [st] [.ExceptHandler ⇑(.Name c cp) ⇑n (b0::suite) hp] [] [] pos) (GD X.K X.mg G j tb th):=by
 intro pins s σ H D I h;refine wpAny_Try_except (Jb (Il (hb pins s σ H D _ I h) (λf s1 q=>?_) λev s1 q=>?_))
 . cases f with
   | next=>exact JO (JO q)
   | ret v=>exact q
   | brk=>exact q
   | cont=>exact q
 let#[H1,s2,I1,ea,cls,d,T0,H',rfl,os,bare,un,hok,hn,he1,hT0,hT1,tr,C,nm,rfl,hC,hsub,hth]:=q;have I2:Inv X pins σ H' s1:=I1.call' os un hok bare λb z=>nomatch z;have hframes:X.A.frames=⇑(X.env::X.outer):=by rw[<- hst]; exact I.ok.frames
 have hfun:s1.heap.FunFrames X.base (X.env::X.outer):=by rw[<- hst]; exact I2.stack
 have hS1:∀b∈cJ (X.env::X.outer),H' b=none:=by rw[<- hst]; exact I2.stkFree
 -- the state with a heap that moved
 have mv:∀(h':Heap) (D':L6->Prop) (g:Array GenState) (dr:Drawn) (tk:Nat),Ex.Mvd (cJ (X.env::X.outer)) D' s1.heap h'->(∀b,D' b->s2.heap.get? b=none)->(∀b,D' b->H' b=none)->AllBare g ->
     Inv X pins σ H' #[h',g,dr,tk,s1.os]:=λh' D' g dr tk m h1 h2 h3=>by
   refine I1.call' (s':=#[h',g,dr,tk,s1.os]) os (Un.moved un m h1 λb hb=>.inl ?_) (bE.moved hok m h2 hS1) h3 λb z=>nomatch z;rw[hst]; exact hb
 refine Ex.x_noteT hframes hfun hfr tr λh3 T hT m3 t3=>?_;refine Ex.x_mark (fr:=none) t3 λh4 m4 t4=>?_;have fr2:∀b,s1.heap.get? b=none->s2.heap.get? b=none:=λb q=>by
   cases r:s2.heap.get? b with
   | none=>rfl
   | some o=>let#[o',z]:=un.there b o r 0x8; rw[q] at z; cases z
 have D1:∀b,((b=ea\/b=T0)\/b=T)->s2.heap.get? b=none:=by
   rintro b ((rfl|rfl)|rfl)
   . exact hn
   . exact hT0
   . exact fr2 _ hT
 have D2:∀b,((b=ea\/b=T0)\/b=T)->H' b=none:=by
   rintro b ((rfl|rfl)|rfl)
   . exact he1
   . exact hT1
   . exact hok.none_of hT
 have M4:Ex.Mvd (cJ (X.env::X.outer)) (λb=>(b=ea\/b=T0)\/b=T) s1.heap h4:=(m3.mono λb z=>.inl z)\(mE (m4.mono λb z=>.inr z) λb z=>nomatch z);have I4:Inv X pins σ H' { s1 with heap:=h4 }:=mv h4 _ s1.gens s1.drawn s1.toks M4 D1 D2 bare;have Ih:=I4.hdl ea;let#[cdG,hcG,hvG,_,bmG,hmG]:=hG.cd;let#[nmG,qG,NG,bsG,bm',snG,subG,abG,colG,ddG,k0,k1,k2,k3,k5,lG,vG]:=hG.obj;refine wpAny_handleBy_cons (codeAny_handlers_test (A:=X.A.mark ⇑↥ea) (kr Ih hg hG.g ?_ hdb)) (by intro q; cases q);have ty:PySem.W.typeIn X.K ↥G=⇑(.type "type"):=by show(List.lookup G X.K).map (·.cls)=_; rw[lG]; rfl
 let#[oe,vs,oT,ts,q1,q2,q3,q4,q5,q6,q7,q8,q9]:=id t4;have Lt:PySem.W.Looks 0x3 h4 (typeOf ↥ea) ↥C:=q2 ▸ (PySem.W.Looks.ld q1).andThen .now;have Li:PySem.W.Looks 0x3 h4 (isType ↥G) true:=by intro A' Q' E' s' k q;unfold isType loadHead;exact HR (Kv (k _ _ (I4.kIn _ _ lG)) (Ha q))
 refine Ex.x_match (s:={ s1 with heap:=h4 }) I4.kIn Lt ty Li (hG.mro 0x7) hsub ?_;dsimp only;refine codeAny_handlers_suite_as ?_;refine Ex.x_mark (s:={ s1 with heap:=h4 }) (fr:=none) t4 λh5 m5 t5=>?_;have M5:Ex.Mvd (cJ (X.env::X.outer)) (λb=>(b=ea\/b=T0)\/b=T) s1.heap h5:=M4.trans (mE (m5.mono λb z=>.inr z) λb z=>nomatch z);have I5:Inv X pins σ H' { s1 with heap:=h5 }:=mv h5 _ s1.gens s1.drawn s1.toks M5 D1 D2 bare;let#[oe5,vs5,oT5,ts5,p1,p2,p3,p4,_]:=id t5;have I6:Inv X pins σ (upd H' ea (XC ea C d)) { s1 with heap:=h5 }:=by refine I1.call' (s':={ s1 with heap:=h5 }) os (Un.track (Un.moved un M5 D1 λb hb=>.inl (by rw[hst]; exact hb)) hn he1) (bE.track (bE.moved hok M5 D2 hS1) he1 (Eg p1 p2 p3 p4)) bare λb z=>nomatch z
 refine pA I6 hN hj (.inl hk) (show aX ↥ea ↥ea from rfl) (λs6 I7=>?_) (.inr hk);refine Il (hh ea pins s6 _ _ _ ((I7.hdl ea).wish _) (hth ea he1)) (λf s7 q=>?_) λ_ _ z=>z.elim;have go:∀{σ':St} {H2:Hp} {Q:Flow->L5->Prop},Inv ((X.hdl ea).nox) pins σ' H2 s7->(∀s8,Inv X pins (σ'.set j none) H2 s8->Q f s8)->wpAny 0x3 X.A (do bindName X.env n .none; unbindBehindTheSuite X.env n hp) (λ_ s8=>Q f s8) X.xe s7:=λ{σ' H2 Q} J k=>by have J':=J.unhdl I.ok;let#[m,hm,hl]:=id J'.loc;exact wpAny_nameGoes_keeps hk hm (by rw[I.ok.kind]; rfl) λh' v hn' hs'=>k _ (J'.dropped hN hj hk hl hm hn' hs')
 cases f with
 | next =>
   let#[σ',H2,J,z]:=q;exact go J λs8 K8=>#[_,H2,K8,z]
 | ret u =>
   let#[v,σ',H2,J,rv,z]:=q;exact go J λs8 K8=>#[v,_,H2,K8,rv,z]
 | brk =>
   let#[σ',H2,J,z]:=q;exact go J λs8 K8=>#[_,H2,K8,z]
 | cont =>
   let#[σ',H2,J,z]:=q;exact go J λs8 K8=>#[_,H2,K8,z]
end
section
variable {P:Program} {w:World} {K:L7} {mg:Str->Hl K'} {base:Heap}
def Fun.okE {x qual:Str} {st:Stmt} {f:L6} {fd:FuncData} {N ps:List Str} {k:Nat} {sp:Sp} (F:Fun K x qual st f fd) (S:FnScope N ps (aS st)) (len:∀vs H Q E,sp vs H Q E->vs.length=ps.length)
   (hbody:∀(cdv:K') (A:Around) (outer:List Env) (s:L5) (H:Hp) (vs:List V) (Q:VK) (E:XK),Room k (A.deeper (envOfC qual (aS st) s.heap.objs.size f cdv))->sp vs H Q E ->
     ∃t,aO (cY (c9 P w) P w K mg base N qual (aS st) f cdv A outer s H E) (aP st) t/\t { nx:=λ_ H'=>Q .non H',rt:=Q } (eR N vs) H):FnOk P w K mg base (c9 P w) (k+1) f fd ps sp:=by
 let#[oc,od,kV,doc,pm,an,cdv,ct,osl,rfl,lk,hcd]:=F.ex;exact uw lk hcd S len λA outer s H vs Q E hr hsp=>hbody cdv A outer s H vs Q E hr hsp
end
section
variable {X:Cx} {k:Nat} {f C:L6} {fd:FuncData} {ps:List Str} {sp:Sp} {x qual:Str} {st:Stmt} {p pos cpos:Pos} {e:Expr} {es:List Expr} {t:TA} {E:XK}
def qd (c:XClsOk X.K X.mg x C) (hi:PySem.W.findIn X.K ↥C "__init__"=⇑⇑(.builtin "ValueError.__init__")) (hc:X.calm=true) (hx:pq X E) (hg:Gl X x:=by rfl)
   (hdb:(x==("__debug__":Str))=false:=by decide):PS X (.Raise ⇑(.Call (.Name x p) [] [] cpos) none pos) (rf C E):=Gb c.cls c.g hi c.kp hc hx hg hdb
end
def qT {K:L7} {mg:Str->Hl K'} {h:Heap} {name:Str} {C N:L6} {nm q:Str} {bs bm:List K'} {sn:List Str} {sub:List K'} {ab:Bool} {col:Hl Bool} {dd:Hl L6} {k0 k1 k2 k3 k5:Hl K'} (X:K.In h) (G:h.Ns mainGlobals mg)
   (a:PySem.W.nsIn K mainGlobals name=⇑⇑↥C) (l:K.lookup C=⇑(excClassObj nm q C N bs bm true sn sub ab col dd k0 k1 k2 k3 k5 "ValueError.__new__")) (v:Ex.veTail bm=true) (kp:PySem.W.keepIn K ↥C=true)
   (sa:PySem.W.findIn K ↥C "__setattr__"=⇑⇑(.builtin "object.__setattr__")) (ga:PySem.W.findIn K ↥C "__getattribute__"=⇑⇑(.builtin "BaseException.__getattribute__")) (gt:PySem.W.findIn K ↥C "__getattr__"=⇑none)
   (cl:PySem.W.findIn K ↥C "__class__"=⇑⇑(.builtin "object.__class__")) (sg:PySem.W.specialIn K (.builtin "object.__class__") "__get__"=⇑⇑(.builtin "getset_descriptor.__get__")) (tk:PySem.W.takesIn K (.builtin "object.__class__")=⇑true):XClsOk K mg name C :=
 #[PySem.W.mg_of X G a,#[nm,q,N,bs,bm,sn,sub,ab,col,dd,k0,k1,k2,k3,k5,l,v],kp,sa,ga,gt,cl,sg,tk]
abbrev EJ (K:L7):List V->Hp->VK->Prop:=λxs H Q=>∃p ys,xs=[↥p]/\(aE K H p ys\/aG K H p ys)/\Q (.int (ys.length:Nat)) H
def C8:bootBuiltins "ValueError"=⇑(.type "ValueError"):=by decide +kernel
def DK :bS X (compareOp .IsNot) (λx y H Q=>∃a b,x=.bl a/\y=.bl b/\Q (.bl (!decide (a=b))) H):=by intro pins s σ H x y v u Q I rx ry h;let#[a,b,rfl,rfl,q]:=h;cases rx;cases ry;exact wpAny_isNot_plain rfl (bj I q (by cases a <;> cases b <;> rfl))
abbrev noX:XK:=λ_ _ _=>False
def gL {P:Program} {w:World} :fh (c9 P w) X noX:=by rintro pins σ H s e s' I ⟨ea,cls,d,T,H',_,_,_,_,_,_,_,_,_,_,h⟩;exact h.elim
end L2
namespace Sk
open PySem PySem.Spec PyProof.Rows
mutual
noncomputable def oj (w:World):PyData->Int
 | .int i=>hashInt i
 | .str x=>hashStr w x
 | .bool b=>hashInt (if b then 1 else 0)
 | .tuple ds=>reduceHash (Builtin.Tuple.tupleHashOf (uW w ds))
 | _=>0
noncomputable def uW (w:World):List PyData->List Int
 | []=>[]
 | d::ds=>oj w d::uW w ds
end
mutual
noncomputable def drw:PyData->Nat
 | .tuple ds=>vW ds+1
 | _=>1
noncomputable def vW:List PyData->Nat
 | []=>0
 | d::ds=>drw d+vW ds
end
end Sk
namespace L2
open PySem PySem.Spec PyProof.Rows
structure RoomH (k:Nat) (A:Around):Prop where
 dp:A.depth+3 * k+5<recursionLimit
 un:A.units+16 * k+200<cLine
def Room.hdm {k j:Nat} {A:Around} (r:Room k A) {v:Hl K'} (h:j<=k):RoomH j (A.mark v):=#[by have:=r.dp; show A.depth+3 * j+5<_; lia,by have:=r.un; show A.units+16 * j+200<_; lia]
noncomputable abbrev Cx.dim (X:Cx):Cx:={ X with calm:=false }
structure FnOkH (P:Program) (w:World) (K:W.Frag) (mg:Str->Option Value) (base:Heap) (k:Nat) (f:Addr) (fd:FuncData) (ps:List Str) (sp:Sp):Prop where
 len:∀vs H Q E,sp vs H Q E->vs.length=ps.length
 run:∀(A:Around) (outer:List Env) (s:Shared) (H:Hp) (args:Args) (us:List Value) (vs:List V) (Q:VK) (E:XK),RoomH k A->Env0 P w K mg base A outer s H->BindsTo s fd args (ps.zip us)->aU vs us->sp vs H Q E ->
   codeAny (model P w) A (.call ↥f args) (CR CX0 outer P w H s Q E) s
section
variable {P:Program} {w:World} {K:L7} {mg:Str->Hl K'} {base:Heap}
def Fun.okH {x qual:Str} {st:Stmt} {f:L6} {fd:FuncData} {N ps:List Str} {k:Nat} {sp:Sp} (F:Fun K x qual st f fd) (S:FnScope N ps (aS st)) (len:∀vs H Q E,sp vs H Q E->vs.length=ps.length)
   (hbody:∀(cdv:K') (A:Around) (outer:List Env) (s:L5) (H:Hp) (vs:List V) (Q:VK) (E:XK),RoomH k (A.deeper (envOfC qual (aS st) s.heap.objs.size f cdv))->sp vs H Q E ->
     ∃t,aO (cY CX0 P w K mg base N qual (aS st) f cdv A outer s H E).dim.nox (aP st) t/\t { nx:=λ_ H'=>Q .non H',rt:=Q } (eR N vs) H):FnOkH P w K mg base (k+1) f fd ps sp:=by
 let#[oc,od,kV,doc,pm,an,cdv,ct,osl,rfl,lk,hcd]:=F.ex;show#[len,λA outer s H args us vs Q E hr e0 hb r hsp=>?_];have KX:K.In s.heap:=e0.mod.kin.keeps λb o e=>(e0.bs b o e).1;have hr':RoomH k (A.deeper (envOfC qual (aS st) s.heap.objs.size f cdv)):=#[by have:=hr.dp; show A.depth+1+3 * k+5<_; lia,by have:=hr.un; show A.units+3+16 * k+200<_; lia]
 let#[t,ht,hq]:=hbody cdv A outer s H vs Q E hr' hsp;refine codeAny_call_function (by have:=hr.dp; lia) (KX _ _ lk) rfl S.co S.gen rfl (PySem.W.codeRec_of KX hcd) (hb _ _ _ _ ?_);refine Ka S.kind (λ⟨n,v⟩ hy=>?_) λenv he s1 x=>?_
 . rcases S.par n (KD hy).1 with q|q
   . exact .inl q
   . exact .inr #[q,PySem.W.cellsFrom_some _ _ _ (.inl q)]
 subst he;show#[(e0.mod.nolimit.keeps λb o e=>(e0.bs b o e).1).keeps x.toInCall.keep,codeAny_func ?_]
 -- the entry,as if nothing were handled
 have e1:Env0 P w K mg base { A with handled:=none } outer s H:=#[e0.frames,e0.mod,e0.bs,e0.bsz,e0.funs,e0.frf,e0.hok,e0.bare]
 have J:=tu (CX:=CX0) (qual:=qual) (f:=f) (cd:=cdv) (E:=E) S rfl e1 (len _ _ _ _ hsp) r x;have I:Inv (cY CX0 P w K mg base N qual (aS st) f cdv A outer s H E).dim [] (eR N vs) H s1 :=
   #[#[J.ok.mod,J.ok.kind,J.ok.glob,J.ok.blt,J.ok.above,J.ok.inj,J.ok.has,J.ok.cab,λz=>Bool.noConfusion z,Around.frames_deeper e0.frames,J.ok.stk,J.ok.exf,J.ok.bs,J.ok.bsz,J.ok.noex,J.ok.exfs,J.ok.funs,J.ok.frf],J.os,J.bare,J.base,J.loc,J.cell,J.free,J.freeC,J.pin,J.hok,J.len]
 refine Il (ht.nox [] s1 (eR N vs) H _ I hq) (λfl s' hs=>?_) λe s' hs=>hs;cases fl with
 | ret u =>
   let#[v,σ',H',J,rv,q]:=hs;show#[v,H',J.os,J.bare,J.base,J.hok,rv,q]
 | next =>
   let#[σ',H',J,q]:=hs;show#[V.non,H',J.os,J.bare,J.base,J.hok,rfl,q]
 | brk =>
   let#[_,_,_,q]:=hs;exact False.elim q
 | cont =>
   let#[_,_,_,q]:=hs;exact False.elim q
end
abbrev FO (K:L7):V->List V->Hp->VK->Prop:=λx xs H Q=>∃p ys y j,x=↥p/\xs=[y]/\aE K H p ys/\eM y=true/\ys.all eM=true/\j<1000/\(∃z,ys[j]?=⇑z/\dS z y=true)/\(∀m z,m<j->ys[m]?=⇑z->dS z y=false)/\Q (.int (j:Nat)) H
def Ay {X:Cx}:mS X "list.index" (FO X.K):=by
 intro pins s σ H x vs v us Q I rx rv h;obtain⟨p,ys,y,j,rfl,rfl,hT,fy,fs,hj0,⟨z,hz,ez⟩,hno,q⟩:=h;cases rx;let#[u,rfl,ru]:=rv.one;obtain⟨its,r,⟨⟨cls,dd,data,sl⟩,n,ho,hc,_,hd⟩,hl⟩:=I.list hT;simp only at hc hd;subst hc hd;let#[uz,huz,rz]:=r.get hz;have hj:j<its.toArray.size:=by rw[Hn];exact(HV.mp huz).1
 have eU:∀(m:Nat) (hm:m<its.toArray.size) (zz:V),ys[m]?=⇑zz->dF y its.toArray[m]=dS zz y:=λm hm zz hzz=>by
   let#[uu,huu,ruu]:=r.get hzz;have:its.toArray[m]=uu:=by have h2:=(HV.mp huu).2;simpa using h2
   rw[this];exact om ruu (K9.mp fs zz (IA hzz))
 refine call_meets F.slot_list_index #[_,ho,rfl] F.entry_list_index (F.args_list_index_2 _ _) (SeqAt.list_indexAt p its.toArray n dd sl u (dF y) j hj ∅ (by rw[eU j hj z hz]; exact ez) λm hm hmj=>?_) #[ho,λw hw=>kM ru fy r fs w ↑hw,?_]
 . have hm':m<ys.length:=by rw[r.length]; simpa using hm
   rw[eU m hm ys[m] (HU hm')];exact hno m _ hmj (HU hm')
 . show#[.int j,H,I.tok _,#[5],q]
structure BaseOk (K:W.Frag) (C:Addr) (m:Str) (f:Addr):Prop where
 ga:PySem.W.specialIn K ↥C "__getattribute__"=⇑⇑(.builtin "type.__getattribute__")
 rd:PySem.W.readsIn K C (.type "type")=true
 e:PySem.W.findCls K ↥C (.type "type") m=⇑(.val ↥f)
 kp:PySem.W.keepIn K ↥f=true
section
variable {X:Cx} {CX:eF} {k:Nat} {f C:L6} {fd:FuncData} {ps:List Str} {sp:Sp} {dvs:List V} {ds:List K'} {E:XK} {x m:Str} {p pos apos:Pos} {e o:Expr} {es:List Expr} {ta:TE} {t:TA}
def Ff {pl:Sem Bool} (he:PE X o (tC ↥C)) (B:BaseOk X.K C m f) (F:FnOk X.prog X.w X.K X.mg X.base CX k f fd ps sp) (hr:Room k X.A) (hb:dC X.K fd ps ds) (hd:aU dvs ds) (hx:fh CX X E) (ha:PA X (e::es) t)
   (hst:starEach (e::es) X.env=(false,eval e X.env)::starEach es X.env:=by rfl) (hpl:(backTo pos (starEach es X.env)).any (·.1)=false:=by rfl)
   (ht:eval (.Call (.Attribute o m apos) (e::es) [] pos) X.env=(do
     let ov <- eval o X.env
     standAt apos.atName
     let (f,first) <- holding [ov] (getMethod ov m pl)
     callWith pos f first (backTo pos (starEach (e::es) X.env)) (backToKw pos (keywordEach [] X.env))):=by rfl) :
   PE X (.Call (.Attribute o m apos) (e::es) [] pos) (mz sp dvs E t):=by
 intro pins s σ H Q I h;refine PySem.W.methodCall_KW (pl:=pl) (aQ (he pins s σ H (λx H1=>x=↥C/\t σ H1 λvs H2=>sp (vs++dvs) H2 Q E) I #[rfl,h]) λu s1 z197_=>?_) ht;let#[x,H1,I1,rx,ex,q]:=z197_;subst ex;obtain rfl:u=Value.ref C:=rx;refine PySem.W.method_cls I1.kIn B.ga (PySem.W.cls_value I1.kIn B.rd B.e rfl ?_);have I2:=I1.tok (s1.toks+1);refine PySem.W.callWith_K (first:=[]) (h₀:=X.base) I.ok.mod.kin B.kp (aQ (ha pos pins _ σ H1 _ I2 q) λus s2 z198_=>z198_.e λvs H2 I3 r q2=>#[I3.kIn,?_]) hst hpl;exact nE (us:=us) (vs:=vs) F hr hb hd hx I3 r q2
end
structure BasOk (K:W.Frag) (C:Addr) (m qual:Str) (st:Stmt) (ps:List Str) (f:Addr) (fd:FuncData):Prop where
 F:Fun K m qual st f fd
 b:dC K fd ps []
 B:BaseOk K C m f
def Ey {K:L7} {C:L6} {m qual:Str} {st:Stmt} {ps:List Str} {f:L6} {oc:K'} {od an:Hl L6} {osl:Array (Hl K')} {kV doc pm cdv ct:K'}
   (ga:PySem.W.specialIn K ↥C "__getattribute__"=⇑⇑(.builtin "type.__getattribute__")) (rd:PySem.W.readsIn K C (.type "type")=true) (e:PySem.W.findCls K ↥C (.type "type") m=⇑(.val ↥f)) (l:K.lookup f=⇑#[oc,od,.func (PySem.W.fnOf m qual (dB st) (aP st) (aS st) .none kV doc pm an cdv ct),osl]) (c:PySem.W.codeIn K cdv qual=true) (k:PySem.W.keepIn K ↥f=true)
   (b:∀(kV doc pm:K') (an:Hl L6) (cdv ct:K') (us:List K'),us.length=ps.length->bindArgs (PySem.W.fnOf m qual (dB st) (aP st) (aS st) .none kV doc pm an cdv ct) #[us,[]]=pure (ps.zip us)) :
   BasOk K C m qual st ps f (PySem.W.fnOf m qual (dB st) (aP st) (aS st) .none kV doc pm an cdv ct) :=
 #[gn l c k,(gn l c k).binds b,#[ga,rd,e,k]]
end L2
namespace PySem
open Sem (wp)
section
variable {prog:Program} {w:World} {A:Around} {E:K'->L5->Prop} {s:L5}
def BY {a:L6} {Q:Hl Obj->L5->Prop} (h:Q (s.heap.get? a) s):wpAny 0x6 A (loadIfAlive a) Q E s:=λΓ p _=>by unfold loadIfAlive;rw[Sem.wp_loadIfAlive];exact↑h
end
end PySem
namespace L2
open PySem PySem.Spec PyProof.Rows
variable {p:L6}
section
variable {g:TG} {tif:TT} {te:TE} {js:List (Hl Nat)} {σ:St} {H:Hp} {Q:VK}
abbrev kJ (H:Hp) (p:L6) (T:Nat->Hp->V->Prop) (i:Nat) (acc:List V) (H2:Hp):Prop:=aB H H2/\H2 p=⇑(.lst acc)/\acc.length=i/\∀(j:Nat) v,acc[j]?=⇑v->T j (ers p H2) v
def AF {H:Hp} {o:HO}:ers p (upd H p o)=ers p H:=by
 funext b;unfold ers;by_cases h:b=p
 . rw[He h,He h]
 . rw[HX h,HX h,aM h]
def rD {T:Nat->Hp->V->Prop} {i:Nat} {acc:List V} {H2 H3:Hp} {v:V} (tm:∀i v H H',aB H H'->T i H v->T i H' v) (hp:H p=none) (r:kJ H p T i acc H2) (s3:aB H2 H3) (hv:T i (ers p H3) v) :
   H3 p=⇑(.lst acc)/\kJ H p T (i+1) (acc++[v]) (upd H3 p (.lst (acc++[v]))):=by
 let#[s2,e2,rfl,ht]:=r;show#[s3 _ _ e2,(s2\s3).upd hp,aI,by simp,λj u hu=>?_];rw[AF];by_cases hj:j<acc.length
 . rw[IV hj] at hu;exact tm _ _ _ _ (aB.ers s3) (ht j u hu)
 . have:j=acc.length:=by
     have:=(HV.mp hu).1;simp at this
     lia
   subst this;rw[IS (HY _)] at hu;simp at hu;rw[<- hu];exact hv
def iH {K:L7} {a:L6} {xs:List V} (T:Nat->Hp->V->Prop) (tm:∀i v H H',aB H H'->T i H v->T i H' v) (hn:xs.length<=1000000) (hS:aE K H a xs) (hp:H p=none)
   (hs:∀i x H2 (R:VK),xs[i]?=⇑x->aB H H2->(∃acc,H2 p=⇑(.lst acc))->(∀v H3,aB H2 H3->T i (ers p H3) v->R v H3)->g x (cB js σ) H2 λσ2 H3=>tif σ2 H3 λc H4=>if c=true then te σ2 H4 R else False)
   (hd:∀H2 vs,aB H H2->H2 p=⇑(.lst vs)->vs.length=xs.length->(∀(i:Nat) v,vs[i]?=⇑v->T i (ers p H2) v)->Q ↥p H2) (mono:∀x H2 (M M':St->Hp->Prop),(∀σ' H',M σ' H'->M' σ' H')->g x (cB js σ) H2 M->g x (cB js σ) H2 M':=by intro _ _ _ _ h z; exact h _ _ z) (mon2:∀σ2 H2 (M M':Bool->Hp->Prop),(∀c H',M c H'->M' c H')->tif σ2 H2 M->tif σ2 H2 M':=by intro _ _ _ _ h z; exact h _ _ z) :
   gZ (iI K a) g tif te js σ Q p H:=by
 refine qK hn (kJ H p T) #[aB.new hp,aI,rfl,λj v h=>by simp at h] ?_ ?_ ?_
 . rintro i acc H2 hi ⟨s2,e2,l2,_⟩;show#[e2,∅,s2.seq hS]
 . rintro i x acc H2 hx r;refine mono _ _ _ _ (λσ' H' z=>?_) (hs i x H2 _ hx r.1 #[acc,r.2.1] λv H3 s3 t3=>rD tm hp r s3 t3);refine mon2 _ _ _ _ (λc H'' zz=>?_) z;cases c with
   | true=>exact zz
   | false=>exact zz.elim
 . rintro acc H2 ⟨s2,e2,l2,t2⟩;exact hd H2 acc s2 e2 l2 t2
def CJ {K:L7} {a:L6} {xs:List V} (T:Nat->Hp->V->Prop) (tm:∀i v H H',aB H H'->T i H v->T i H' v) (hn:xs.length<=1000000) (hS:aG K H a xs) (hp:H p=none)
   (hs:∀i x H2 (R:VK),xs[i]?=⇑x->aB H H2->(∃acc,H2 p=⇑(.lst acc))->(∀v H3,aB H2 H3->T i (ers p H3) v->R v H3)->g x (cB js σ) H2 λσ2 H3=>tif σ2 H3 λc H4=>if c=true then te σ2 H4 R else False)
   (hd:∀H2 vs,aB H H2->H2 p=⇑(.lst vs)->vs.length=xs.length->(∀(i:Nat) v,vs[i]?=⇑v->T i (ers p H2) v)->Q ↥p H2) (mono:∀x H2 (M M':St->Hp->Prop),(∀σ' H',M σ' H'->M' σ' H')->g x (cB js σ) H2 M->g x (cB js σ) H2 M':=by intro _ _ _ _ h z; exact h _ _ z) (mon2:∀σ2 H2 (M M':Bool->Hp->Prop),(∀c H',M c H'->M' c H')->tif σ2 H2 M->tif σ2 H2 M':=by intro _ _ _ _ h z; exact h _ _ z) :
   gZ (iO K a) g tif te js σ Q p H:=by
 refine oU hn (kJ H p T) #[aB.new hp,aI,rfl,λj v h=>by simp at h] ?_ ?_ ?_
 . rintro i acc H2 hi ⟨s2,e2,l2,_⟩;show#[e2,∅,s2<*hS]
 . rintro i x acc H2 hx r;refine mono _ _ _ _ (λσ' H' z=>?_) (hs i x H2 _ hx r.1 #[acc,r.2.1] λv H3 s3 t3=>rD tm hp r s3 t3);refine mon2 _ _ _ _ (λc H'' zz=>?_) z;cases c with
   | true=>exact zz
   | false=>exact zz.elim
 . rintro acc H2 ⟨s2,e2,l2,t2⟩;exact hd H2 acc s2 e2 l2 t2
def kB {lo:Int} {n:Nat} (T:Nat->Hp->V->Prop) (tm:∀i v H H',aB H H'->T i H v->T i H' v) (hn:n<=1000000) (hp:H p=none)
   (hs:∀i H2 (R:VK),i<n->aB H H2->(∃acc,H2 p=⇑(.lst acc))->(∀v H3,aB H2 H3->T i (ers p H3) v->R v H3)->g (.int (lo+i)) (cB js σ) H2 λσ2 H3=>tif σ2 H3 λc H4=>if c=true then te σ2 H4 R else False)
   (hd:∀H2 vs,aB H H2->H2 p=⇑(.lst vs)->vs.length=n->(∀(i:Nat) v,vs[i]?=⇑v->T i (ers p H2) v)->Q ↥p H2) (mono:∀x H2 (M M':St->Hp->Prop),(∀σ' H',M σ' H'->M' σ' H')->g x (cB js σ) H2 M->g x (cB js σ) H2 M':=by intro _ _ _ _ h z; exact h _ _ z) (mon2:∀σ2 H2 (M M':Bool->Hp->Prop),(∀c H',M c H'->M' c H')->tif σ2 H2 M->tif σ2 H2 M':=by intro _ _ _ _ h z; exact h _ _ z) :
   gZ (gE lo n) g tif te js σ Q p H:=by
 refine mx hn (kJ H p T) #[aB.new hp,aI,rfl,λj v h=>by simp at h] ?_ ?_ ?_
 . rintro i acc H2 hi ⟨s2,e2,l2,_⟩;show#[e2,∅]
 . rintro i acc H2 hx r;refine mono _ _ _ _ (λσ' H' z=>?_) (hs i H2 _ hx r.1 #[acc,r.2.1] λv H3 s3 t3=>rD tm hp r s3 t3);refine mon2 _ _ _ _ (λc H'' zz=>?_) z;cases c with
   | true=>exact zz
   | false=>exact zz.elim
 . rintro acc H2 ⟨s2,e2,l2,t2⟩;exact hd H2 acc s2 e2 l2 t2
end
end L2
namespace Wk
open PySem L2 Gx Fl
variable {H':Hp}
section
variable {cW cF:L6} {Hb H H2:Hp} {w:Wr} {fs:List Fm} {oc:V} {sent:List V} {co:HO} {rc:Int}
abbrev gr (Hb H H2:Hp):Hp:=λb=>match H b with
 | some _=>Hb b
 | none=>H2 b
def gr_same (hb:aB Hb H):aB Hb (gr Hb H H2):=λb o h=>by unfold gr;rw[hb _ _ h];exact h
def F7 (hb:aB Hb H) (s:aB H H2):aB (gr Hb H H2) H2:=λb o h=>by
 unfold gr at h;cases e:H b with
 | none=>rw[e] at h; exact h
 | some v=>rw[e] at h; exact s _ _ (hb _ _ h)
def gr_new {b:L6} {o:HO} (h:H b=none) (h2:H2 b=⇑o):gr Hb H H2 b=⇑o:=by unfold gr;rw[h];exact h2
def gr_own {b:L6} {o:HO} (h:H b=⇑o) (hb:Hb b=none):gr Hb H H2 b=none:=by unfold gr;rw[h];exact hb
abbrev NI (H H':Hp):Prop:=∀b o,H b=⇑o->(∀C dx fs,o≠.ins C dx fs)->H' b=⇑o
def NI.tup {K:L7} {a:L6} {xs:List V} {H':Hp} (e:NI H H') (h:aG K H a xs):aG K H' a xs:=by
 rcases h with h|h
 . refine .inl ?_;rcases h with h|h
   . exact .inl (e _ _ h (λ_ _ _ z=>by cases z))
   . exact .inr (by
       obtain h:=h
       first
         | exact e _ _ h (λ_ _ _ z=>by cases z)
         | (let#[n,h]:=h; exact⟨n,e _ _ h (λ_ _ _ z=>by cases z)⟩))
 . exact .inr h
def Gf {K:L7} {xs as:List V} {g:Hl Str} (e:NI H H') (h:K12.RowS K H xs g as):K12.RowS K H' xs g as:=by cases h <;> first|(constructor; done)|(constructor; exact e<*(by assumption))
def Cu {K:L7} {f:F2.Fd} (h:F2.FnAt K H f) (e:NI H H'):F2.FnAt K H' f :=
 #[e<*h.fn,e<*h.pr,e<*h.rw_,λw hw=>by let#[rest,h1,h2]:=h.rk w hw; show#[rest,e<*h1,h2],
   #[by let#[n,b,p,r,h1,h2,h3]:=h.fu.fn; show#[n,b,p,r,e<*h1,e<*h2,e<*h3],λd hd=>let z:=h.fu.rows d hd; #[by let#[xs,h1,h2]:=z.row; show#[xs,e<*h1,Gf e h2],z.ats,z.len,z.nm],h.fu.pn,h.fu.pl,h.fu.dl],h.wf,h.len]
def flows_ni {K:L7} {C x:L6} {fns:List F2.Fd} (h:F2.FlowsAt K C H x fns) (e:NI H H') (ex:∀o,H x=⇑o->H' x=⇑o):F2.FlowsAt K C H' x fns:=by
 let#[dx,fz,d,kv,nl,wl,h0,h1,h2,h3,h4,h5,h6,h7,h8]:=h.ob;show#[λf hf=>Cu (h.all f hf) e,h.nd,#[dx,fz,d,kv,nl,wl,h0,#[ex _ h1.ob,λj hj=>e _ _ (h1.dc j hj) (λ_ _ _ z=>by cases z)],h2,h3,h4,h5,h6,h7,λi f hi=>#[e _ _ (h8 i f hi).1 (λ_ _ _ z=>by cases z),?_]]];let#[vs,e1,e2,e3]:=(h8 i f hi).2;show#[vs,e _ _ e1 (λ_ _ _ z=>by cases z),e2,λk v q=>?_];let#[o,due,vo]:=e3 k v q;show#[o,due,?_];cases o with
 | none=>exact vo
 | some l=>let#[p,z1,z2]:=vo; show#[p,z1,e _ _ z2 (λ_ _ _ z=>by cases z)]
end
section
variable {K:L7} {C x:L6} {H:Hp} {fns:List F2.Fd} {F:F2.Fd}
abbrev DE (C:L6) (H:Hp) (x:L6) (fld:Str) (n:Str) (v:V):Prop:=∃dx fs d kvs,H x=⇑(.ins C dx fs)/\fs.lookup fld=⇑↥d/\H d=⇑(.dK kvs)/\au kvs (Sum.inr n:aF)=⇑v
def dget_of {H:Hp} {d:L6} {kvs:List (aF×V)} {n:Str} {v:V} (h:H d=⇑(.dK kvs)) (hv:au kvs (Sum.inr n:aF)=⇑v):dA H d (.str n) ⇑v:=by have:=dA.k (k:=(Sum.inr n:aF)) h;rw[hv] at this;exact this
def fl_names (h:F2.FlowsAt K C H x fns) (hF:F∈fns):∃nl,DE C H x "names_in" F.name ↥nl/\H nl=⇑(.lst ((F2.nms F).map V.str)):=by let#[i,hi]:=List.getElem?_of_mem hF;let#[dx,fz,d,kv,nl,wl,h0,hO,h2,h3,h4,h5,h6,h7,h8]:=h.ob;have hd:=hO.dc 4 #[];rw[h6] at hd;show#[nl i,#[dx,8,hO.ob,uS _ _,hd,F2.kD_at _ h.nd hi],(h8 i F hi).1]
def fl_last (h:F2.FlowsAt K C H x fns):∃dx fs fz,H x=⇑(.ins C dx fs)/\fns[fns.length - 1]?=⇑fz/\fs.lookup ("last":Str)=⇑(.str fz.name):=by let#[dx,fz,d,kv,nl,wl,h0,hO,_]:=h.ob;show#[dx,_,fz,hO.ob,h0,B' _ _]
end
end Wk
namespace Rk2
open PySem L2 K21
inductive Tr where
 | box (k:Int):Tr
 | num (v:Int):Tr
 | op (s:Str) (l r:Tr):Tr
 deriving DecidableEq
abbrev lvs:Tr->List (Bool×Int)
 | .box k=>[(true,k)]
 | .num v=>[(false,v)]
 | .op _ l r=>lvs l++lvs r
abbrev dp:Tr->Nat
 | .box _=>0
 | .num _=>0
 | .op _ l r=>max (dp l) (dp r)+1
abbrev RAt (H:Hp):Tr->V->Prop
 | .box k,v=>∃p,v=↥p/\H p=⇑(.tup [.str "box",.int k])
 | .num n,v=>∃p,v=↥p/\H p=⇑(.tup [.str "num",.int n])
 | .op s l r,v=>∃p x y,v=↥p/\H p=⇑(.tup [.str s,x,y])/\¬ s="box"/\¬ s="num"/\RAt H l x/\RAt H r y
def RAt.mono {H H':Hp} (e:aB H H'):∀{t:Tr} {v:V},RAt H t v->RAt H' t v
 | .box k,v,h=>by let#[p,h1,h2]:=h; show#[p,h1,e _ _ h2]
 | .num n,v,h=>by let#[p,h1,h2]:=h; show#[p,h1,e _ _ h2]
 | .op s l r,v,h=>by let#[p,x,y,h1,h2,h3,h4,h5,h6]:=h; show#[p,x,y,h1,e _ _ h2,h3,h4,RAt.mono e h5,RAt.mono e h6]
abbrev Ps {α:Type} (R:α->V->Prop):List V->List α->Prop
 | [],[]=>True
 | v::us,t::ts=>R t v/\Ps R us ts
 | _,_=>False
variable {α:Type} {R R':α->V->Prop}
def Ps.imp (f:∀t v,R t v->R' t v):∀{us:List V} {ts:List α},Ps R us ts->Ps R' us ts
 | [],[],_=>trivial
 | v::us,t::ts,h=>#[f _ _ h.1,Ps.imp f h.2]
 | [],_::_,h=>h.elim
 | _::_,[],h=>h.elim
def Ps.len:∀{us:List V} {ts:List α},Ps R us ts->us.length=ts.length
 | [],[],_=>rfl
 | v::us,t::ts,h=>by rw[II,II,Ps.len h.2]
 | [],_::_,h=>h.elim
 | _::_,[],h=>h.elim
def Ps.app:∀{us us':List V} {ts ts':List α},Ps R us ts->Ps R us' ts'->Ps R (us++us') (ts++ts')
 | [],_,[],_,_,h=>h
 | v::us,_,t::ts,_,h,h'=>#[h.1,Ps.app h.2 h']
 | [],_,_::_,_,h,_=>h.elim
 | _::_,_,[],_,h,_=>h.elim
def CU (c:Nat):¬ (#[(List.toArray [c])]:Str)="box"/\¬ (#[(List.toArray [c])]:Str)="num":=by
 show#[λz=>?_,λz=>?_]
 . have:=Hr Str.length z;exact absurd this (by show ¬ (1=Str.length "box"); decide +kernel)
 . have:=Hr Str.length z;exact absurd this (by show ¬ (1=Str.length "num"); decide +kernel)
def RAt.head {H:Hp} {tr:Tr} {v:V} (h:RAt H tr v):∃p hd rest,v=↥p/\H p=⇑(.tup (.str hd::rest))/\(hd="num"->∃k,tr=.num k/\rest=[.int k])/\(¬ hd="num"->∀k,tr≠.num k):=by
 cases tr with
 | box k =>
   let#[p,rfl,e]:=h;show#[p,9,e,λz=>absurd z 0x7,λ_ k z=>by cases z]
 | num k =>
   let#[p,rfl,e]:=h;show#[p,9,e,λ_=>#[k,7],λz=>absurd rfl z]
 | op s l r =>
   let#[p,x,y,rfl,e,n1,n2,_,_]:=h;show#[p,9,e,λz=>absurd z n2,λ_ k z=>by cases z]
abbrev okl (l:List (Bool×Int)):Prop:=∀v,(false,v)∈l->0<=v/\v<wide
def zX {v:Int} (h:okl (lvs (.num v))):0<=v/\v<wide:=h v Hj
def vq {Q:VK} {H:Hp} {x y:V} (h:x=y) (q:Q y H):Q x H:=by subst h; exact q
def iC:((2:Int) ^ (48:Int).toNat)=wide:=by decide
def iw:(0:Int)<(2:Int) ^ (48:Int).toNat:=by decide
def bL:2<=sizeLine:=by decide
def dU:3<=sizeLine:=by decide
def lt_line' {n:Nat} (h:n<1000000):n<sizeLine:=by
 have:(1000000:Nat)<sizeLine:=by decide
 omega
def bU {x:V} {r:List V}:aq (x::r) 0=⇑x:=by unfold aq cb;rw[He #[],He 0x8];rfl
def Ep:¬ (("num":Str)="box"):=by decide +kernel
def FM:¬ (("box":Str)="num"):=by decide +kernel
def GV:((("+-*/<=&|^":Str).cps.toList.length:Nat):Int)=9:=by decide +kernel
def EY:("+-*/<=&|^":Str).length<=sizeLine:=by decide +kernel
def BJ {i:Int} (h0:0<=i) (h1:i<9):∃ch,aq ("+-*/<=&|^":Str).cps.toList i=⇑ch:=by let#[ch,hch,_]:=rg (xs:=("+-*/<=&|^":Str).cps.toList) (i:=i) h0 (by rw[GV]; exact h1);show#[ch,hch]
abbrev wv (f:Int->Int):Tr->Int
 | .box k=>f k
 | .num v=>v
 | .op s l r=>valOf s (wv f l) (wv f r)
def px {a b:List (Bool×Int)} (h:okl (a++b)):okl a/\okl b:=#[λv hv=>h v (IH.mpr (.inl hv)),λv hv=>h v (IH.mpr (.inr hv))]
def i9 {f:Int->Int} (hf:∀k,0<=f k/\f k<wide):∀{t:Tr},okl (lvs t)->0<=wv f t/\wv f t<wide
 | .box k,_=>hf k
 | .num v,h=>zX h
 | .op s l r,h=>by let#[h1,h2]:=px h;have b1:=i9 hf h1;have b2:=i9 hf h2;exact Am s b1.1 b2.1 b1.2 b2.2
abbrev fOf (kvs:List (aF×V)) (k:Int):Int:=match au kvs (Sum.inl k:aF) with|some (.int z)=>z|_=>0
abbrev DV (kvs:List (aF×V)):Prop:=∀k x,au kvs (Sum.inl k:aF)=⇑x->∃z,x=.int z/\0<=z/\z<wide
def wk {kvs:List (aF×V)} (h:DV kvs) (k:Int):(au kvs (Sum.inl k:aF)).getD (.int 0)=.int (fOf kvs k):=by
 unfold fOf;cases e:au kvs (Sum.inl k:aF) with
 | none=>rfl
 | some x =>
   let#[z,rfl,_]:=h k x e;rfl
def kR {kvs:List (aF×V)} (h:DV kvs) (k:Int):0<=fOf kvs k/\fOf kvs k<wide:=by
 unfold fOf;cases e:au kvs (Sum.inl k:aF) with
 | none=>show#[Int.le_refl _,#[]]
 | some x =>
   let#[z,rfl,h0,h1]:=h k x e;show#[h0,h1]
def putK_len (kvs:List (aF×V)) (k:aF) (v:V):(putK kvs k v).length<=kvs.length+1:=by
 unfold putK;split
 . rw[HS]; omega
 . rw[HZ]; exact HY _
def DV_put {kvs:List (aF×V)} (h:DV kvs) {k y:Int} (y0:0<=y) (y1:y<wide):DV (putK kvs (Sum.inl k:aF) (.int y)):=by
 intro j x e;rw[cf] at e;split at e
 . show#[y,(Option.some.inj e).symm,y0,y1]
 . exact h j x e
end Rk2
namespace Rk2
open PySem L2 K21
def okl_one {v:Int} (h0:0<=v) (h1:v<wide):okl (lvs (.num v)):=λw hw=>by have h:=IC.mp hw;cases h;show#[h0,h1]
def GX (k:Int):okl (lvs (.box k)):=λw hw=>by have h:=IC.mp hw;cases h
end Rk2
namespace K41
open PySem L2 Gx Fl
structure RR where
 w:Rw
 d:K12.RowD
abbrev nS (K:L7) (H:Hp) (x:RR):Prop:=x.w.r=x.d.r/\jE K H x.w/\K12.RowAt K H x.d
def at_i (i:Int):K12.Atom (.int i):=.inr #[i,rfl]
def at_s {s:Str} (h:K12.Nm s):K12.Atom (.str s):=.inl #[s,rfl,h]
def pD {p:V->Prop} {a:V} (h:p a):∀v∈[a],p v:=λv hv=>by rw[IC.mp hv]; exact h
abbrev rone (k:Str) (r:L6) (a:V):RR:=#[#[r,k,""],#[r,(0),(0),none,[a]]]
def ok_out {K:L7} {H:Hp} {r:L6} {a:V} (h:aG K H r [.str "out",a]) (ha:K12.Atom a):nS K H (rone "out" r a) :=
 #[rfl,#[_,h,λz=>absurd z (by show ¬ (("out":Str)="call"); decide +kernel)],#[#[_,h,.out a],pD ha,by show 1<=10; decide,λx hx=>by cases hx]]
def ok_back {K:L7} {H:Hp} {r:L6} {a:V} (h:aG K H r [.str "back",a]) (ha:K12.Atom a):nS K H (rone "back" r a) :=
 #[rfl,#[_,h,λz=>absurd z (by show ¬ (("back":Str)="call"); decide +kernel)],#[#[_,h,.back a],pD ha,by show 1<=10; decide,λx hx=>by cases hx]]
def good_rep {ks os:List Str} {x:Str} (g:K13.Good ks os) (h1:¬ K13.isO x=true) (h2:¬ K13.isE x=true) (h3:¬ x="end"):∀n,K13.Good (ks++List.replicate n x) os
 | 0=>by rw[List.replicate_zero,IQ]; exact g
 | n+1=>by rw[List.replicate_succ',<- Ib]; exact(good_rep g h1 h2 h3 n).plain h1 h2 h3
abbrev lc (z:Int):Nat:=K12.lets.cps.toList.getD z.toNat 0
def sJ:K12.lets.cps.toList.length=26:=by decide +kernel
variable {z:Int}
def uO (h0:0<=z) (h1:z<26):aq K12.lets.cps.toList z=⇑(lc z):=by
 let#[j,rfl]:=Iv h0;have hj:j<K12.lets.cps.toList.length:=by rw[sJ]; lia
 refine bv ?_;unfold lc;rw[JI,Ii,HU hj];rfl
def wQ (h0:0<=z) (h1:z<26):lc z∈K12.lets.cps.toList:=by
 have hj:z.toNat<K12.lets.cps.toList.length:=by rw[sJ]; lia
 unfold lc;rw[Ii,HU hj];exact IT hj
def DR {x y:Int} (x0:0<=x) (x1:x<26) (y0:0<=y) (y1:y<26) (h:lc x=lc y):x=y:=by
 have key:∀i<26,∀j<26,K12.lets.cps.toList.getD i 0=K12.lets.cps.toList.getD j 0->i=j:=by decide +kernel
 have:=key x.toNat ∅ y.toNat ∅ h
 lia
def vO {l:List Nat} (h:∀c∈l,c∈K12.lets.cps.toList):PyData.strOk (tx l)=true:=by
 have hz:=K12.lets_ok;unfold PyData.strOk at hz ⊢;rw[Array.all_eq_true'] at hz ⊢;intro x hx;have hx:x∈l:=by simpa [tx] using hx
 exact hz x (by simpa using h x hx)
abbrev jF:List V:=[V.str "fn",V.str "in",V.str "new",V.str "get",V.str "put",V.str "call",V.str "out",V.str "if",V.str "while",V.str "else",V.str "end",V.str "back"]
abbrev di (W:List Nat) (a:Nat) (z:Int) (k:Nat):List Nat:=W.take a++[lc ((z+k)%26)]++W.drop a
abbrev nmk (W:List Nat) (a:Nat) (z:Int) (k:Nat):Str:=if eS (.str (tx (di W a z k))) jF=true then tx (di W a z k++[120]) else tx (di W a z k)
def bse_len (W:List Nat) (a:Nat) (z:Int) (k:Nat):(di W a z k).length=W.length+1:=by
 unfold di;rw[HZ,HZ,IE,J5];simp
 lia
variable {j:Nat}
def wX {W:List Nat} {a:Nat} {i:Nat}(hi:i<26) (hj:j<26) (h:di W a z i=di W a z j):i=j:=by
 unfold di at h;rw[Ib,Ib] at h;have h:=List.append_cancel_left h;have h:=(List.cons.inj h).1;have b1:=gd (z+i) 26 #[];have b2:=gd (z+j) 26 #[];have:=DR b1.1 b1.2 b2.1 b2.2 h
 lia
def Bt {W:List Nat} {a:Nat} {i:Nat}(hi:i<26) (hj:j<26) (h:nmk W a z i=nmk W a z j):i=j:=by
 have l1:=bse_len W a z i;have l2:=bse_len W a z j;unfold nmk at h;split at h
 . split at h
   . have:=nG h;exact wX hi hj (List.append_cancel_right this)
   . have:=Hr List.length (nG h);rw[HZ] at this;simp at this
     lia
 . split at h
   . have:=Hr List.length (nG h);rw[HZ] at this;simp at this
     lia
   . exact wX hi hj (nG h)
def C3 {W:List Nat} {a:Nat} {k:Nat} (hW:∀c∈W,c∈K12.lets.cps.toList) (hl:W.length<=10):K12.Nm (nmk W a z k):=by
 have b1:=gd (z+k) 26 #[];have hm:∀c∈di W a z k,c∈K12.lets.cps.toList:=λc hc=>by
   unfold di at hc;rcases IH.mp hc with h|h
   . rcases IH.mp h with h|h
     . exact hW c (List.mem_of_mem_take h)
     . rw[IC.mp h]; exact wQ b1.1 b1.2
   . exact hW c (List.mem_of_mem_drop h)
 have l1:=bse_len W a z k;unfold nmk;split
 . show#[by rw[dW,HZ,l1]; simp; lia,vO λc hc=>?_];rcases IH.mp hc with h|h
   . exact hm c h
   . rw[IC.mp h]; decide +kernel
 . show#[by rw[dW,l1]; lia,vO hm]
def tx_to {l:List Nat} (h:j<=l.length):PySem.Txt.slice (tx l) none ⇑(j:Int)=tx (l.take j):=by have:=PyProof.Rows.slice_closes_to (x:=tx l) (j:=(j:Int)) #[∅,by rw[kX]; lia];rw[Kg,kX] at this;rw[this];simp [tx]
def FG {l:List Nat} (h:j<=l.length):PySem.Txt.slice (tx l) ⇑(j:Int) none=tx (l.drop j):=by
 have:=PyProof.Rows.slice_from_eq (x:=tx l) (i:=(j:Int)) (b:=(l.length:Int)) ∅ (by rw[dW]; lia) (by rw[dW]);rw[this,kX];have e:((l.length:Int) - (j:Int)).toNat=(l.drop j).length:=by rw[J5]; lia
 rw[e,JI,IP];rfl
end K41
namespace Bg
open PySem L2 Gx Rk2
abbrev qN:Tr->Prop
 | .op s l r=>PyData.strOk s=true/\qN l/\qN r
 | _=>True
abbrev TOk' (n:Nat) (t:Tr):Prop:=okl (lvs t)/\qN t/\dp t<=n/\∀k,(true,k)∈lvs t->0<=k/\k<128
def uR {n:Nat} {k:Int} (h:0<=k/\k<128):TOk' n (.box k):=#[GX k,trivial,Hw _,λj hj=>by cases IC.mp hj; exact h]
def tq {n:Nat} {v:Int} (h0:0<=v) (h1:v<K21.wide):TOk' n (.num v):=#[okl_one h0 h1,trivial,Hw _,λj hj=>by cases IC.mp hj]
def mC {n:Nat} {s:Str} {a b:Tr} (hs:PyData.strOk s=true) (ha:TOk' n a) (hb:TOk' n b):TOk' (n+1) (.op s a b) :=
 #[λv hv=>(IH.mp hv).elim (ha.1 v) (hb.1 v),#[hs,ha.2.1,hb.2.1],Nat.succ_le_succ (Nat.max_le.mpr #[ha.2.2.1,hb.2.2.1]),λk hk=>(IH.mp hk).elim (ha.2.2.2 k) (hb.2.2.2 k)]
def m8 {i:Int} {ch:Nat} (h:aq ("+-*/<=&|^":Str).cps.toList i=⇑ch):PyData.strOk (#[(List.toArray [ch])]:Str)=true:=by
 have hm:ch∈("+-*/<=&|^":Str).cps.toList:=by
   unfold aq at h;cases e:cb ("+-*/<=&|^":Str).cps.toList.length i with
   | none=>rw[e] at h; cases h
   | some j=>rw[e] at h; exact IA h
 have key:∀c∈("+-*/<=&|^":Str).cps.toList,PyData.strOk (⟨(List.toArray [c])⟩:Str)=true:=by decide +kernel
 exact key ch hm
def emod_bd' (a b:Int) (h:0<b):0<=a%b/\a%b<b:=#[JT _ (Int.ne_of_gt h),JN _ h]
abbrev BxL (bs:List Int):Prop:=bs.length=8/\∀b∈bs,0<=b/\b<128
def bx_at {bs:List Int} (h:BxL bs) (z:Int):∃b,(0:Int)<((bs.map V.int).length:Nat)/\aq (bs.map V.int) (z%((bs.map V.int).length:Nat))=⇑(.int b)/\0<=b/\b<128:=by
 have hl:(bs.map V.int).length=8:=by rw[HS]; exact h.1
 have hz:=emod_bd' z ((bs.map V.int).length:Nat) ∅;let#[j,ej]:=Iv hz.1;have hj:j<bs.length:=by have:=h.1; lia
 show#[bs[j],∅,?_,(h.2 _ (IT hj)).1,(h.2 _ (IT hj)).2];rw[ej];refine bv ?_;rw[Hk,HU hj];rfl
end Bg
namespace Bg
open PySem L2 Gx K41
abbrev i3 (K:L7) (H:Hp) (n:Nat) (v:V):Prop:=∃d,cA n d/\bQ K H d v
abbrev j5 (K:L7) (H:Hp) (n:Nat) (xs:List V):Prop:=∃ds,(∀d∈ds,cA n d)/\cQ K H ds xs
def i3.str {K:L7} {H:Hp} {n:Nat} {s:Str} (h:PyData.strOk s=true):i3 K H n (.str s):=#[.str s,cA.str h,by unfold bQ; rfl]
def i3.int {K:L7} {H:Hp} {n:Nat} {i:Int}:i3 K H n (.int i):=#[.int i,cA.int i,by unfold bQ; rfl]
variable {K:L7} {H:Hp} {n:Nat}
def i3.bl {b:Bool}:i3 K H n (.bl b):=#[.bool b,cA.bool b,by unfold bQ; rfl]
def j5.nil :j5 K H n []:=#[[],λd h=>(by cases h),by unfold cQ; rfl]
def j5.cons {K:L7} {H:Hp} {n:Nat} {x:V} {xs:List V} (h:i3 K H n x) (t:j5 K H n xs):j5 K H n (x::xs):=by let#[d,l,z]:=h;let#[ds,ls,zs]:=t;show#[d::ds,λe he=>(Hh.mp he).elim (λz=>z ▸ l) (ls e),?_];unfold cQ;show#[9,z,zs]
abbrev Twin (K:L7) (H:Hp) (n:Nat) (x y:V):Prop:=∃d,cA n d/\bQ K H d x/\bQ K H d y
abbrev TwinA (K:L7) (H:Hp) (n:Nat) (xs ys:List V):Prop:=∃ds,(∀d∈ds,cA n d)/\cQ K H ds xs/\cQ K H ds ys
def TwinA.nil :TwinA K H n [] []:=#[[],λd h=>(by cases h),(by unfold cQ; rfl),(by unfold cQ; rfl)]
def TwinA.cons {K:L7} {H:Hp} {n:Nat} {x y:V} {xs ys:List V} (h:Twin K H n x y) (t:TwinA K H n xs ys):TwinA K H n (x::xs) (y::ys):=by
 let#[d,l,z1,z2]:=h;let#[ds,ls,zs1,zs2]:=t;show#[d::ds,λe he=>(Hh.mp he).elim (λz=>z ▸ l) (ls e),?_,?_]
 . unfold cQ;show#[9,z1,zs1]
 . unfold cQ;show#[9,z2,zs2]
def TwinA.of {xs:List V} (h:j5 K H n xs):TwinA K H n xs xs:=by let#[ds,l,z]:=h; show#[ds,l,z,z]
def Twin.tup {K:L7} {H:Hp} {n:Nat} {a b:L6} {xs ys:List V} (h1:aG K H a xs) (h2:aG K H b ys) (t:TwinA K H n xs ys):Twin K H (n+1) ↥a ↥b:=by
 let#[ds,ls,z1,z2]:=t;show#[.tuple ds,cA.tuple ls,?_,?_]
 . unfold bQ;show#[a,xs,rfl,h1,z1]
 . unfold bQ;show#[b,ys,rfl,h2,z2]
def Twin.lst {K:L7} {H:Hp} {n:Nat} {a b:L6} {xs ys:List V} (h1:aE K H a xs) (h2:aE K H b ys) (t:TwinA K H n xs ys):Twin K H (n+1) ↥a ↥b:=by
 let#[ds,ls,z1,z2]:=t;show#[.list ds,cA.list ls,?_,?_]
 . unfold bQ;show#[a,xs,rfl,h1,z1]
 . unfold bQ;show#[b,ys,rfl,h2,z2]
def Twin.eq {Q:VK} {x y:V} (h:Twin K H n x y) (hn:n<=64) (q:Q (.bl true) H):oz K x y H Q:=by let#[d,l,z1,z2]:=h; exact AY hn l z1 z2 q
def fn_mk2 {nk:Str} {fa tr qC:L6} {fo:V} {ps:List Str} (rr:List RR) (h1:aG K H fa [.str nk,fo,↥qC,↥tr]) (h2:aG K H tr (rr.map λx=>V.ref x.w.r)) (h3:∀x∈rr,nS K H x) (h4:aG K H qC (ps.map V.str)) (h5:∀s∈ps,K12.Nm s) (h6:ps.length<=100) (h7:rr.length<=100) (wf:K13.Wf (rr.map λx=>x.w.k)) :
   F2.FnAt K H #[nk,fo,fa,qC,tr,ps,rr.map (·.w),rr.map (·.d)]:=by
 show#[h1,h4,by show aG K H tr ((rr.map (·.w)).map λw=>V.ref w.r); rw[Iq]; exact h2,λw hw=>?_,#[#[16,h1,h4,?_],λd hd=>?_,h5,h6,by show(rr.map (·.d)).length<=100; rw[HS]; exact h7],by show K13.Wf ((rr.map (·.w)).map (·.k)); rw[Iq]; exact wf,by show(rr.map (·.w)).length<=100; rw[HS]; exact h7]
 . let#[x,hx,rfl]:=IJ.mp hw;exact(h3 x hx).2.1
 . show aG K H tr ((rr.map (·.d)).map λd=>V.ref d.r);rw[Iq];have:(rr.map λx=>V.ref x.w.r)=rr.map ((λd=>V.ref d.r) ∘ (·.d)):=KQ λx hx=>by show V.ref x.w.r=V.ref x.d.r;rw[(h3 x hx).1]
   rw[<- this];exact h2
 . let#[x,hx,rfl]:=IJ.mp hd;exact(h3 x hx).2.2
abbrev rcopyV (r:L6) (nm:Str) (i:Int):RR:=#[#[r,"copy",""],#[r,(0),(0),⇑nm,[.int i]]]
def ok_copyV {r:L6} {nm:Str} {i:Int} (h:aG K H r [.str "copy",.str nm,.int i]) (hn:K12.Nm nm):nS K H (rcopyV r nm i) :=
 #[rfl,#[_,h,λz=>absurd z (by show ¬ (("copy":Str)="call"); decide +kernel)],#[#[_,h,.copy nm _],pD (at_i i),by show 1<=10; decide,λx hx=>by cases hx; exact hn]]
end Bg
namespace Wk
open PySem L2 Gx Fl K41 Bg
structure Cn where
 kv:List (List aF×V)
 rc:Int
end Wk
namespace Cw
open PySem L2 Gx Fl Wk
structure Own (Hb H:Hp) (O:List (Addr×HO)):Prop where
 b:aB Hb H
 at_:∀p∈O,H p.1=⇑p.2
 no:∀p∈O,Hb p.1=none
 nd:(O.map (·.1)).Nodup
section
variable {Hb H H2:Hp} {O A B:List (L6×HO)} {a:L6} {o o':HO}
def Own.get (h:Own Hb H O) (m:(a,o)∈O):H a=⇑o:=h.at_ _ m
def Own.apart (h:Own Hb H (A++(a,o)::B)):∀p∈A++B,p.1≠a:=λp hp z=>by
 have nd:=h.nd;rw[Hq,IF] at nd;have:=K2.mp nd;rcases IH.mp hp with q|q
 . exact this.2.2 _ (IJ.mpr #[p,q,rfl]) _ Hj z
 . exact(JP.mp this.2.1).1 (z ▸ IJ.mpr #[p,q,rfl])
def Own.set (h:Own Hb H (A++(a,o)::B)):Own Hb (upd H a o') (A++(a,o')::B):=by
 have ap:=h.apart;have na:Hb a=none:=h.no (a,o) (Hz _ Hj);show#[h.b.upd na,λp hp=>?_,λp hp=>?_,?_]
 . rcases IH.mp hp with q|q
   . rw[aM (ap p (Ik _ q))];exact h.at_ p (Ik _ q)
   . rcases Hh.mp q with q|q
     . rw[q]; exact aI
     . rw[aM (ap p (Hz _ q))];exact h.at_ p (Hz _ (Hv _ q))
 . rcases IH.mp hp with q|q
   . exact h.no p (Ik _ q)
   . rcases Hh.mp q with q|q
     . rw[q]; exact na
     . exact h.no p (Hz _ (Hv _ q))
 . have:=h.nd;rw[Hq,IF] at this ⊢;exact this
def Own.setK {H':Hp} (h:Own Hb H (A++(a,o)::B)) (s:aB (ers a H) H') (e:H' a=⇑o'):Own Hb H' (A++(a,o')::B):=by
 have ap:=h.apart;have na:Hb a=none:=h.no (a,o) (Hz _ Hj);have k:∀b u,b≠a->H b=⇑u->H' b=⇑u:=λb u hb hu=>s _ _ (by rw[ak hb]; exact hu);show#[λb u q=>k b u (λz=>by rw[z,na] at q; cases q) (h.b _ _ q),λp hp=>?_,(h.set (o':=o')).no,(h.set (o':=o')).nd];rcases IH.mp hp with q|q
 . exact k _ _ (ap p (Ik _ q)) (h.at_ p (Ik _ q))
 . rcases Hh.mp q with q|q
   . rw[q]; exact e
   . exact k _ _ (ap p (Hz _ q)) (h.at_ p (Hz _ (Hv _ q)))
def Own.perm {O':List (L6×HO)} (h:Own Hb H O) (p:O'.Perm O):Own Hb H O' :=
 #[h.b,λx hx=>h.at_ x (p.mem_iff.mp hx),λx hx=>h.no x (p.mem_iff.mp hx),(p.map (·.1)).nodup_iff.mpr h.nd]
def Own.sub {O':List (L6×HO)} (h:Own Hb H O) (s:O'.Sublist O):Own Hb H O' :=
 #[h.b,λx hx=>h.at_ x (s.subset hx),λx hx=>h.no x (s.subset hx),h.nd.sublist (s.map (·.1))]
def Own.keep (h:Own Hb H O) (s:aB H H2):Own Hb H2 O:=#[h.b\s,λp hp=>s _ _ (h.at_ p hp),h.no,h.nd]
def Own.grow (h:Own Hb H O) (s:aB H H2):Own (gr Hb H H2) H2 O :=
 #[F7 h.b s,λp hp=>s _ _ (h.at_ p hp),λp hp=>gr_own (h.at_ p hp) (h.no p hp),h.nd]
def Own.take {N:List (L6×HO)} (h:Own Hb H O) (s:aB H H2) (hn:∀p∈N,H p.1=none/\H2 p.1=⇑p.2) (nd:(N.map (·.1)).Nodup) :
   Own (N.foldr (λp G=>ers p.1 G) (gr Hb H H2)) H2 (O++N)/\aB Hb (N.foldr (λp G=>ers p.1 G) (gr Hb H H2)):=by
 have g:=h.grow s;have er:∀(L:List (L6×HO)) (G:Hp) (b:L6),(b∈L.map (·.1)->L.foldr (λp G=>ers p.1 G) G b=none)/\(b ∉ L.map (·.1)->L.foldr (λp G=>ers p.1 G) G b=G b):=by
   intro L G b
   induction L with
   | nil=>show#[λz=>(by cases z),λ_=>rfl]
   | cons p L ih =>
     rw[List.foldr_cons,IF];by_cases z:b=p.1
     . show#[λ_=>?_,λq=>absurd (z ▸ Hj) q];rw[z]; unfold L2.ers; rw[He rfl]
     . rw[ak z];show#[λq=>ih.1 ((Hh.mp q).resolve_left z),λq=>ih.2 λy=>q (Hv _ y)]
 have old:∀p∈O,p.1 ∉ N.map (·.1):=λp hp z=>by let#[n,hn1,e]:=IJ.mp z;have:=(hn n hn1).1;rw[e,h.at_ p hp] at this;cases this
 show#[#[λb u q=>?_,λp hp=>?_,λp hp=>?_,?_],λb u q=>?_]
 . by_cases z:b∈N.map (·.1)
   . rw[(er N _ b).1 z] at q; cases q
   . rw[(er N _ b).2 z] at q; exact g.b _ _ q
 . rcases IH.mp hp with q|q
   . exact g.at_ p q
   . exact(hn p q).2
 . rcases IH.mp hp with q|q
   . rw[(er N _ p.1).2 (old p q)]; exact g.no p q
   . exact(er N _ p.1).1 (IJ.mpr #[p,q,rfl])
 . rw[Hq];refine K2.mpr #[h.nd,nd,λx hx y hy z=>?_];let#[p,hp,rfl]:=IJ.mp hx;exact old p hp (z ▸ hy)
 . rw[(er N _ b).2 λz=>?_]
   . exact gr_same h.b _ _ q
   . let#[n,hn1,e]:=IJ.mp z;have:=(hn n hn1).1;rw[e,h.b _ _ q] at this;cases this
end
structure Wr where
 (a dx st sd ct fl sp mp:Addr)
structure Fm where
 (a dx bx:Addr)
 fn:Str
 spot:Nat
 kvs:List (aF×V)
 first:Nat
abbrev wF (w:Wr) (oc:V) (rc:Int):List (Str×V):=[("flows",↥w.fl),("stack",↥w.st),("outcome",oc),("sendings",↥w.sd),("contents",↥w.ct),("records",.int rc)]
abbrev wG (w:Wr) (oc:V) (rc:Int) (wt:L6):List (Str×V):=[("flows",↥w.fl),("stack",↥w.st),("outcome",oc),("sendings",↥w.sd),("contents",↥w.ct),("records",.int rc),("spots_of",↥w.sp),("marks_of",↥w.mp),("waiting",↥wt)]
abbrev fF (f:Fm):List (Str×V):=[("function",.str f.fn),("spot",.int f.spot),("boxes",↥f.bx),("first",.int f.first)]
abbrev fO (cF:L6) (f:Fm):List (L6×HO):=[(f.a,.ins cF f.dx (fF f)),(f.bx,.dK f.kvs)]
abbrev objs (cW cF:L6) (w:Wr) (wt:L6) (fs:List Fm) (oc:V) (sent:List V) (cn:Cn) (wl:List V):List (L6×HO) :=
 (w.a,.ins cW w.dx (wG w oc cn.rc wt))::(w.st,.lst (fs.map λf:Fm=>V.ref f.a))::(w.sd,.lst sent)::(w.ct,.dT cn.kv)::(wt,.lst wl)::fs.flatMap (fO cF)
abbrev bF (cW cF:L6) (Hb H:Hp) (w:Wr) (wt:L6) (fs:List Fm) (oc:V) (sent:List V) (cn:Cn) (wl:List V):Prop:=Own Hb H (objs cW cF w wt fs oc sent cn wl)
variable {f:Fm}
section
variable {cW cF:L6} {Hb H H2:Hp} {w:Wr} {wt:L6} {fs:List Fm} {oc:V} {sent:List V} {cn:Cn} {wl:List V}
def bF.o (h:bF cW cF Hb H w wt fs oc sent cn wl):H w.a=⇑(.ins cW w.dx (wG w oc cn.rc wt)):=h.get (by unfold objs; simp)
def bF.st (h:bF cW cF Hb H w wt fs oc sent cn wl):H w.st=⇑(.lst (fs.map λf:Fm=>V.ref f.a)):=h.get (by unfold objs; simp)
def bF.wts (h:bF cW cF Hb H w wt fs oc sent cn wl):H wt=⇑(.lst wl):=h.get (by unfold objs; simp)
def bF.fr (h:bF cW cF Hb H w wt fs oc sent cn wl) (hf:f∈fs):H f.a=⇑(.ins cF f.dx (fF f))/\H f.bx=⇑(.dK f.kvs):=by
 have k:∀p∈fO cF f,p∈objs cW cF w wt fs oc sent cn wl:=λp hp=>by unfold objs;have:p∈fs.flatMap (fO cF):=Km.mpr #[f,hf,hp];simp only[Hh];exact .inr (.inr (.inr (.inr (.inr this))))
 show#[h.get (k _ (by unfold fO; simp)),h.get (k _ (by unfold fO; simp))]
def bF.nob (h:bF cW cF Hb H w wt fs oc sent cn wl) (hf:f∈fs):Hb f.bx=none:=by refine h.no (f.bx,.dK f.kvs) ?_;unfold objs;have:(f.bx,HO.dK f.kvs)∈fs.flatMap (fO cF):=Km.mpr #[f,hf,by unfold fO; simp];simp only[Hh];exact .inr (.inr (.inr (.inr (.inr this))))
def bF.keep (h:bF cW cF Hb H w wt fs oc sent cn wl) (s:aB H H2):bF cW cF Hb H2 w wt fs oc sent cn wl:=Own.keep h s
def bF.out {v:V} (h:bF cW cF Hb H w wt fs oc sent cn wl):bF cW cF Hb (upd H w.a (.ins cW w.dx (wG w v cn.rc wt))) w wt fs v sent cn wl:=Own.set (A:=[]) h
def bF.wait {xs:List V} (h:bF cW cF Hb H w wt fs oc sent cn wl):bF cW cF Hb (upd H wt (.lst xs)) w wt fs oc sent cn xs :=
 Own.set (A:=[(w.a,.ins cW w.dx (wG w oc cn.rc wt)),(w.st,.lst (fs.map λf:Fm=>V.ref f.a)),(w.sd,.lst sent),(w.ct,.dT cn.kv)]) h
def bF.goto {r:Nat} (h:bF cW cF Hb H w wt (fs++[f]) oc sent cn wl):bF cW cF Hb (upd H f.a (.ins cF f.dx (fF { f with spot:=r }))) w wt (fs++[{ f with spot:=r }]) oc sent cn wl:=by
 have e:∀g:Fm,g.a=f.a->objs cW cF w wt (fs++[g]) oc sent cn wl=((w.a,.ins cW w.dx (wG w oc cn.rc wt))::(w.st,.lst ((fs.map λf:Fm=>V.ref f.a)++[V.ref f.a]))::(w.sd,.lst sent)::(w.ct,.dT cn.kv)::(wt,.lst wl)::fs.flatMap (fO cF))++(g.a,.ins cF g.dx (fF g))::[(g.bx,.dK g.kvs)]:=λg hg=>by unfold objs;rw[IZ,Hq,<- hg];rfl
 unfold bF at h ⊢;rw[e f rfl] at h;rw[e { f with spot:=r } rfl];exact Own.set h
def bF.boxesK {ks:List (aF×V)} {H2:Hp} (h:bF cW cF Hb H w wt (fs++[f]) oc sent cn wl) (s:aB (ers f.bx H) H2) (e2:H2 f.bx=⇑(.dK ks)):bF cW cF Hb H2 w wt (fs++[{ f with kvs:=ks }]) oc sent cn wl:=by
 have e:∀g:Fm,g.a=f.a->objs cW cF w wt (fs++[g]) oc sent cn wl=((w.a,.ins cW w.dx (wG w oc cn.rc wt))::(w.st,.lst ((fs.map λf:Fm=>V.ref f.a)++[V.ref f.a]))::(w.sd,.lst sent)::(w.ct,.dT cn.kv)::(wt,.lst wl)::(fs.flatMap (fO cF)++[(g.a,.ins cF g.dx (fF g))]))++(g.bx,.dK g.kvs)::[]:=λg hg=>by unfold objs;rw[IZ,Hq,<- hg];show _=_::_::_::_::_::((_++_)++_);rw[Ib];rfl
 unfold bF at h ⊢;rw[e f rfl] at h;rw[e { f with kvs:=ks } rfl];exact Own.setK h s e2
def bF.pop (h:bF cW cF Hb H w wt (fs++[f]) oc sent cn wl):bF cW cF Hb (upd H w.st (.lst (fs.map λf:Fm=>V.ref f.a))) w wt fs oc sent cn wl:=by have h1:Own Hb (upd H w.st (.lst (fs.map λf:Fm=>V.ref f.a))) ([(w.a,.ins cW w.dx (wG w oc cn.rc wt))]++(w.st,.lst (fs.map λf:Fm=>V.ref f.a))::(w.sd,.lst sent)::(w.ct,.dT cn.kv)::(wt,.lst wl)::(fs++[f]).flatMap (fO cF)):=Own.set (o:=.lst ((fs++[f]).map λf:Fm=>V.ref f.a)) h;refine Own.sub h1 ?_;rw[IZ];exact .cons_cons _ (.cons_cons _ (.cons_cons _ (.cons_cons _ (.cons_cons _ (List.sublist_append_left _ _)))))
def bF.push (h:bF cW cF Hb H w wt fs oc sent cn wl) (s:aB H H2) (ha:H f.a=none) (hb:H f.bx=none) (ne:f.a≠f.bx) (h1:H2 f.a=⇑(.ins cF f.dx (fF f))) (h2:H2 f.bx=⇑(.dK f.kvs)) :
   ∃Hb',bF cW cF Hb' (upd H2 w.st (.lst ((fs++[f]).map λf:Fm=>V.ref f.a))) w wt (fs++[f]) oc sent cn wl/\aB Hb Hb':=by
 have k:=Own.take (N:=fO cF f) h s (λp hp=>by
   unfold fO at hp;simp only[Hh,ID,or_false] at hp;rcases hp with rfl|rfl
   . show#[ha,h1]
   . show#[hb,h2]) (by unfold fO; simp [ne])
 show#[_,?_,k.2];have k1:=k.1;have e:objs cW cF w wt fs oc sent cn wl++fO cF f=[(w.a,.ins cW w.dx (wG w oc cn.rc wt))]++(w.st,.lst (fs.map λf:Fm=>V.ref f.a))::(w.sd,.lst sent)::(w.ct,.dT cn.kv)::(wt,.lst wl)::(fs++[f]).flatMap (fO cF):=by unfold objs;rw[IZ];simp
 rw[e] at k1;exact Own.set k1
def bF.anew {l:L6} {xs:List V} (h:bF cW cF Hb H w wt fs oc sent cn wl) (s:aB H H2) (hl:H l=none) (h2:H2 l=⇑(.lst xs)) :
   ∃Hb',bF cW cF Hb' (upd H2 w.a (.ins cW w.dx (wG w oc cn.rc l))) w l fs oc sent cn xs/\aB Hb Hb':=by
 have k:=Own.take (N:=[(l,.lst xs)]) h s (λp hp=>by rw[IC.mp hp];show#[hl,h2]) 0x8
 show#[_,?_,k.2];have k1:=k.1;have k2:Own _ _ ([]++(w.a,HO.ins cW w.dx (wG w oc cn.rc wt))::((w.st,.lst (fs.map λf:Fm=>V.ref f.a))::(w.sd,.lst sent)::(w.ct,.dT cn.kv)::(wt,.lst wl)::fs.flatMap (fO cF)++[(l,.lst xs)])):=k1;have k3:=Own.set (o':=.ins cW w.dx (wG w oc cn.rc l)) k2;refine Own.perm (Own.sub k3 (O':=(w.a,.ins cW w.dx (wG w oc cn.rc l))::(w.st,.lst (fs.map λf:Fm=>V.ref f.a))::(w.sd,.lst sent)::(w.ct,.dT cn.kv)::(fs.flatMap (fO cF)++[(l,.lst xs)])) ?_) ?_
 . exact .cons_cons _ (.cons_cons _ (.cons_cons _ (.cons_cons _ (.cons _ (List.Sublist.refl _)))))
 . unfold objs;refine .cons _ (.cons _ (.cons _ (.cons _ ?_)));exact(List.perm_append_singleton _ _).symm
def bF.grow (h:bF cW cF Hb H w wt fs oc sent cn wl) (s:aB H H2):bF cW cF (gr Hb H H2) H2 w wt fs oc sent cn wl:=Own.grow h s
end
end Cw
namespace PySem
open Sem (wp)
open AutoSeq1 (wpAny_loadPart')
def A9:typeLookup (.type "enumerate") "keys"=pure none:=by rw[typeLookup_type,builtinLookup_eq_fast]; kernel_rfl
def EB:typeLookup (.type "enumerate") "__getattr__"=pure none:=by rw[typeLookup_type,builtinLookup_eq_fast]; kernel_rfl
def HI:entryFor table "enumerate.__getattribute__"=⇑Builtin.«object.__getattribute__» :=
 entryFor_alias (id':="object.__getattribute__") (by kernel_rfl) 0x7 0x7 (by kernel_rfl)
def BA (a:L6) (xs:Array K') (sl:Array (Hl K')) (name:Str) (u:Tok) (hmiss:typeLookup (.type "enumerate") name=pure none) (hname:(["__module__","__name__","__qualname__","__doc__","__annotations__"]:List Str).contains name=false) (hsz:name.length+100<=sizeLine:=by size_fits) :
   Meets (Builtin.«object.__getattribute__» #[[↥a,.str name u],[]]) (λA R s=>s.heap.get? a=some { cls:=.type "enumerate",dict:=none,data:=.fields xs,slots:=sl }/\raisesAttr ↥a name A R s) :=
 Meets.of_wp λprog w A R s hs=>by
   let#[hp,g,d,tk,os]:=s;let#[hx,hs]:=hs;have hT:(⟨hp,g,d,tk,os⟩:L5).TypeIs ↥a "enumerate":=#[_,hx,rfl]
   unfold Builtin.«object.__getattribute__»
   repeat (any_goals (first|assumption|wp_step))
   simp only[hname,JA,if_false]
   repeat (any_goals (first|assumption|wp_step))
   exact wpAny_raiseAttrError hs.1 hs.2 (attrMsg_fits 0x7 hsz)
def BP {prog:Program} {w:World} {A:Around} {E:K'->L5->Prop} {s:L5} {a:L6} {o:Obj} {xs:Array K'} {Q:Hl K'->L5->Prop}
   (hx:s.heap.get? a=⇑o) (hc:o.cls=.type "enumerate") (hdat:o.data=.fields xs) (hd:o.dict=none) (hA:A.handled=none)
   (h:∀h' tk,(∀b ob,s.heap.get? b=⇑ob->h'.get? b=⇑ob)->Q none { s with heap:=h',toks:=tk }) :
   wpAny 0x6 A (getAttr? ↥a "keys") Q E s:=by
 let#[c,dct,dat,sl]:=o;simp only at hc hdat hd;subst hc hdat hd;let#[hp,g,d,tk,os]:=s;have hT:∀tk',(⟨hp,g,d,tk',os⟩:L5).TypeIs ↥a "enumerate":=λ_=>#[_,hx,rfl]
 have f1:=sub_AttributeError;have f3:=Ji.lookup;have f4:=Ji.bind ↥a;have f5:=EB;unfold getAttr? getAttrBy? getAttrBy
 repeat (any_goals (first|assumption|exact hT _|((with_reducible show wpAny _ _ (call (Value.builtin "enumerate.__getattribute__") _ _) _ _ _); refine call_meets Ji (hT _) HI (F.args_enumerate_getattribute_2 _ _) (BA a xs sl "keys" _ A9 0x7 0x7) #[hx,hA,λh' tk' e hx'=>?_])|wp_step))
 let#[t',u',he]:=hx'.there
 try (show wpAny _ _ (getattributeRaised _ _ _ _ _ _ _) _ _ _)
 try unfold getattributeRaised
 repeat (any_goals (first|assumption|wp_step))
 all_goals (first|exact h _ _ hx'.keeps|trace_state)
noncomputable abbrev gH (h:Heap) (e it T:L6) (i:Int) (fb:Bool) (item:K'):Prop :=
 h.get? e=some { cls:=.type "enumerate",dict:=none,data:=.fields (List.toArray [rawInt T,.bool fb,↥it,rawInt i,.none,item]),slots:=0xC }
variable {it:L6} {i:Nat}
section
variable {prog:Program} {w:World} {A:Around} {E:K'->L5->Prop} {s:L5}
def Cj {e T:L6}{i:Int} {fb:Bool} {item:K'} {Q:Bool->L5->Prop} (zZ:gH s.heap e it T i fb item) (aT:∃o,s.heap.get? T=⇑o)
   (hQ:∀h',gH h' e it T i true item->Heap.SameBut e s.heap h'->Q false { s with heap:=h' }):wpAny 0x6 A (Builtin.SmallTypes.ownedTupleIsFree ↥e) Q E s:=by
 unfold Builtin.SmallTypes.ownedTupleIsFree;refine HR (IR zZ rfl (x:=rawInt T) rfl ?_);show wpAny _ _ (loadIfAlive _ >>= _) _ _ _;refine HR (BY ?_);let#[o,ho]:=aT;rw[show(T:Int).toNat=T from rfl,ho];rw[HX 0x8];refine HR (IR zZ rfl (x:=.bool fb) rfl ?_);cases fb with
 | true=>exact Ha (hQ _ zZ #[rfl,λ_ _=>rfl])
 | false=>exact HR (Iu zZ 0x8 λh₁ zZ₁ hs₁=>Ha (hQ h₁ zZ₁ hs₁))
def ER {e l T:L6}{fb:Bool} {items:Array K'} {x item:K'} {Q:K'->L5->Prop}
   (he:gH s.heap e it T i fb item) (aT:∃o,s.heap.get? T=⇑o) (hTe:T≠e) (hTi:T≠it) (hit:s.heap.IsListIter it l i) (hl:s.heap.IsList l items) (hx:items[i]?=⇑x) (hne:e≠it)
   (hQ:∀h',gH h' e it T ((i:Int)+1) true item->h'.IsListIter it l (i+1) ->
     h'.get? s.heap.objs.size=some { cls:=.type "tuple",data:=.seq (List.toArray [.int i s.toks,x]) }->h'.objs.size=s.heap.objs.size+1 ->
     (∀b o,b≠e->b≠it->s.heap.get? b=⇑o->h'.get? b=⇑o)->Q ↥s.heap.objs.size { s with heap:=h',toks:=s.toks+1 }) :
   wpAny 0x6 A (Builtin.«enumerate.__next__» #[[↥e],[]]) (λfin s'=>∃v,fin=.done (.ret v)/\Q v s') E s:=by
 let#[hp,g,d,tk,os]:=s;show wpAny _ _ (field ↥e 2 >>= _) _ _ _;refine HR (IR he rfl (x:=↥it) rfl ?_);refine HR (wpAny_nextOf_list_item hit hl hx λh₁ hit₁ hs₁=>?_)
 replace hs₁:Heap.SameBut it hp h₁:=hs₁
 have he₁:gH h₁ e it T i fb item:=(hs₁.2 e hne)\he;show wpAny _ _ (field ↥e 3 >>= _) _ _ #[h₁,g,d,tk,os];refine HR (IR he₁ rfl (x:=rawInt i) rfl ?_);show wpAny _ _ (field ↥e 4 >>= _) _ _ #[h₁,g,d,tk,os];refine HR (IR he₁ rfl (x:=.none) rfl ?_);show wpAny _ _ (mkInt i >>= _) _ _ #[h₁,g,d,tk,os];refine HR (wpAny_mkInt ?_);show wpAny _ _ (setField ↥e 3 (rawInt ((i:Int)+1)) >>= _) _ _ #[h₁,g,d,tk+1,os];refine HR (Iu he₁ 0x8 λh₂ he₂ hs₂=>?_)
 replace hs₂:Heap.SameBut e h₁ h₂:=hs₂
 replace he₂:gH h₂ e it T ((i:Int)+1) fb item:=he₂
 show wpAny _ _ (setField ↥e 4 .none >>= _) _ _ #[h₂,g,d,tk+1,os];refine HR (Iu he₂ 0x8 λh₃ he₃ hs₃=>?_)
 replace hs₃:Heap.SameBut e h₂ h₃:=hs₃
 replace he₃:gH h₃ e it T ((i:Int)+1) fb item:=he₃
 show wpAny _ _ (newTuple [.int i tk,x] >>= _) _ _ #[h₃,g,d,tk+1,os];refine HR (wpAny_newTuple ?_);have he₄:gH (h₃.push { cls:=.type "tuple",data:=.seq (List.toArray [.int i tk,x]) }) e it T ((i:Int)+1) fb item:=HW _ he₃;generalize hh₄:h₃.push { cls:=.type "tuple",data:=.seq (List.toArray [.int i tk,x]) }=h₄ at he₄;have hsz:h₃.objs.size=hp.objs.size:=by rw[hs₃.1,hs₂.1,hs₁.1]
 have hel:e<hp.objs.size:=Hm he;have ht₄:h₄.get? hp.objs.size=some { cls:=.type "tuple",data:=.seq (List.toArray [.int i tk,x]) }:=by rw[<- hh₄,<- hsz]; exact Hs _ rfl
 have hz₄:h₄.objs.size=hp.objs.size+1:=by rw[<- hh₄,Iy,hsz]
 have hk₄:∀b o,b≠e->b≠it->hp.get? b=⇑o->h₄.get? b=⇑o:=λb o hbe hbi hb=>by rw[<- hh₄]; exact HW _ (hs₃.extBut b o hbe (hs₂.extBut b o hbe (hs₁.extBut b o hbi hb)))
 have hit₄:h₄.IsListIter it l (i+1):=by rw[<- hh₄]; let#[o,ho,r]:=(hit₁.extBut hs₂.extBut (Ne.symm hne)).extBut hs₃.extBut (Ne.symm hne); show#[o,HW _ ho,r]
 have aT₄:∃o,h₄.get? T=⇑o:=by let#[o,ho]:=aT; show#[o,hk₄ T o hTe hTi ho]
 show wpAny _ _ (Builtin.SmallTypes.ownedTupleIsFree ↥e >>= _) _ _ #[h₄,g,d,tk+1,os];rw[hsz];refine HR (Cj (s:=#[h₄,g,d,tk+1,os]) he₄ aT₄ λh₅ he₅ hs₅=>?_)
 replace hs₅:Heap.SameBut e h₄ h₅:=hs₅
 rw[HX 0x8];refine Ha #[5,hQ h₅ he₅ (hit₄.extBut hs₅.extBut (Ne.symm hne)) (hs₅.extBut _ _ (JC hel) ht₄) (by rw[hs₅.1,hz₄]) λb o hbe hbi hb=>hs₅.extBut b o hbe (hk₄ b o hbe hbi hb)]
abbrev gV (h:Heap) (e it:L6) (i:Nat):Hl L6->Prop
 | none=>∃old,IsEnum h e it i old
 | some T=>(∃fb item,gH h e it T i fb item)/\∃o,h.get? T=⇑o
def gV.lt {h:Heap} {e:L6}{m:Hl L6} (z:gV h e it i m):e<h.objs.size:=by
 cases m with
 | none=>let#[_,z]:=z; exact Hm z
 | some T=>obtain⟨⟨_,_,z⟩,_⟩:=z; exact Hm z
def gV.at {h h':Heap} {e:L6}{m:Hl L6} (z:gV h e it i m) (k:∀o,h.get? e=⇑o->h'.get? e=⇑o) (kT:∀T,m=⇑T->∀o,h.get? T=⇑o->h'.get? T=⇑o):gV h' e it i m:=by
 cases m with
 | none=>let#[old,z]:=z; show#[old,k _ z]
 | some T=>obtain⟨⟨fb,item,z⟩,o,ho⟩:=z; show#[#[fb,item,k _ z],o,kT T rfl _ ho]
def BN {e l:L6}{m:Hl L6} {items:Array K'} {x:K'} {Q:Hl K'->L5->Prop}
   (he:gV s.heap e it i m) (hm:∀T,m=⇑T->T≠e/\T≠it) (hit:s.heap.IsListIter it l i) (hl:s.heap.IsList l items) (hx:items[i]?=⇑x) (hne:e≠it)
   (hQ:∀h',gV h' e it (i+1) ⇑(m.getD s.heap.objs.size)->h'.IsListIter it l (i+1) ->
     h'.get? s.heap.objs.size=some { cls:=.type "tuple",data:=.seq (List.toArray [.int i s.toks,x]) }->h'.objs.size=s.heap.objs.size+1 ->
     (∀b o,b≠e->b≠it->s.heap.get? b=⇑o->h'.get? b=⇑o)->Q ⇑↥s.heap.objs.size { s with heap:=h',toks:=s.toks+1 }) :
   wpAny 0x6 A (pyNext ↥e) Q E s:=by
 cases m with
 | none =>
   let#[old,he]:=he;exact wpAny_pyNext_enum_item he hit hl hx hne λh' a b c d k=>hQ h' #[#[false,x,a],_,c] b c d k
 | some T =>
   obtain⟨⟨fb,item,he⟩,o,ho⟩:=he;let#[t1,t2]:=hm T rfl;have hT:s.TypeIs ↥e "enumerate":=#[_,he,rfl]
   unfold pyNext;exact HR (K7 (wpAny_callSpecial?_slot (name:=Str.ofString "__next__") hT Jn
     (Ix Jn hT F.entry_enumerate_next
       (ER he #[o,ho] t1 t2 hit hl hx hne λh' a b c d k=>Ha (hQ h' #[#[true,item,a],o,k T o t1 t2 ho] b c d k)) (Kt _))))
def Eu {e l:L6}{m:Hl L6} {items:Array K'} {Q:Hl K'->L5->Prop} (hh:A.handled=none)
   (he:gV s.heap e it i m) (hit:s.heap.IsListIter it l i) (hl:s.heap.IsList l items) (hx:items[i]?=none)
   (hQ:∀h',Heap.ExtBut it s.heap h'->Q none { s with heap:=h' }):wpAny 0x6 A (pyNext ↥e) Q E s:=by
 cases m with
 | none =>
   let#[old,he]:=he;exact wpAny_pyNext_enum_end hh he hit hl hx hQ
 | some T =>
   obtain⟨⟨fb,item,he⟩,o,ho⟩:=he;have hT:s.TypeIs ↥e "enumerate":=#[_,he,rfl]
   unfold pyNext;refine HR (K7 (wpAny_callSpecial?_slot (name:=Str.ofString "__next__") hT Jn
     (Ix Jn hT F.entry_enumerate_next ?_ (Kt _))))
   show wpAny _ _ (field ↥e 2 >>= _) _ _ _;refine HR (IR he rfl (x:=↥it) rfl ?_);refine HR (wpAny_nextOf_list_end hh hit hl hx λh' x he' hx'=>?_);let#[o,ho,hc]:=hx';refine HR (wpAny_isInstance (T:="StopIteration") (b:=true) #[o,ho,hc] isSubtype_stop ?_);exact Ha (hQ _ he')
end
end PySem
namespace L2
open PySem PySem.Spec PyProof.Rows
section
variable {X:Cx} {pins:List (L6×Obj)} {σ:St} {H:Hp}
abbrev cz (n:Nat):List aF:=(List.range n).map λi:Nat=>(Sum.inl (i:Int):aF)
abbrev bf (ys:List V):List (aF×V):=((cz ys.length).zip ys).foldl 0x9 []
def CK {n i:Nat} (h:i<n):(cz n)[i]?=⇑(Sum.inl (i:Int)):=by unfold cz; simp [h]
def vI (n:Nat):(cz n).length=n:=by unfold cz; simp
def DT {A:Around} {R:Result->L5->Prop} {D e it l:L6} {ys:List V} (hA:A.handled=none) (hne:e≠it)
   (h2:aE X.K H l ys) (hD:H D=none) (hz:ys.length<=100000) (nD:∀b∈[e,it],b≠D) (fp:∀b∈[e,it],∀H',H' b=none->dq X pins H' b)
   (hR:∀s' H',Inv X pins σ H' s'->aB H H'->H' D=⇑(.dK (bf ys))->R (.ok (.ret .none)) s') :
   ∀(k i:Nat) (t:Tok) (s:L5) (Hi:Hp) (m:Hl L6),ys.length - i=k->i<=ys.length->Inv X pins σ Hi s->aB H Hi->Hi D=⇑(.dK ((((cz ys.length).zip ys).take i).foldl 0x9 [])) ->
     gV s.heap e it i m->(∀T,m=⇑T->∃xs,Hi T=⇑(.tup xs))->s.heap.IsListIter it l i->(∀b∈[e,it],Hi b=none) ->
     codeAny 0x3 A (.builtin "dict.update.loop" #[[↥D,↥e,.int (i:Nat) t,.none],[]]) R s:=by
 have flen:∀(l:List (aF×V)) (acc:List (aF×V)),(l.foldl 0x9 acc).length<=acc.length+l.length:=by
   intro l
   induction l with
   | nil=>intro acc; simp
   | cons x r ih =>
     intro acc;rw[Jf];have h1:=ih (putK acc x.1 x.2);have h2:=dL acc x.1 x.2;simp only[II]
     lia
 have big:(100000:Nat)<sizeLine:=by decide
 have hzl:((cz ys.length).zip ys).length=ys.length:=by rw[Jv,vI]; lia
 intro k
 induction k with
 | zero =>
   intro i t s Hi m hk hi I sm eD zs hm p2 fr;have e':i=ys.length:=by lia
   rw[Ic (by rw[hzl]; lia)] at eD;let#[is2,r2,q2,_]:=I.list (sm.seq h2);have hl2:=r2.length;refine KG mw ?_;rw[Around.under_plainId gf _];show wpAny _ A.in1 (pyNext ↥e >>= _) _ _ s;refine HR (Eu (A:=A.in1) hA zs p2 q2.isList (by simp; lia) λh' hk=>?_);have I1:Inv X pins σ Hi { s with heap:=h' }:=I.turnedL (t':=s.toks) (ch:=[e,it]) (λb o hb q=>hk b o (λzz=>hb (by simp [zz])) q) λb hb=>fp b hb Hi (fr b hb);show wpAny _ _ (Builtin.Dict.addKeywords D [] >>= _) _ _ _;exact HR (Ha (Ha (hR _ _ I1 sm eD)))
 | succ k ih =>
   intro i t s Hi m hk hi I sm eD zs hm p2 fr;have hlt:i<ys.length:=by lia
   let#[is2,r2,q2,_]:=I.list (sm.seq h2);let#[v,hv,rv]:=r2.get (show ys[i]?=some ys[i] by simp [hlt]);have hp:∀b∈[e,it],∀T,m=⇑T->T≠b:=λb hb T eT q=>by let#[xs,hT]:=hm T eT;rw[q,fr b hb] at hT;cases hT
   refine KG mw ?_;rw[Around.under_plainId gf _];show wpAny _ A.in1 (pyNext ↥e >>= _) _ _ s;refine HR (BN (A:=A.in1) zs (λT eT=>#[hp e 0x8 T eT,hp it 0x8 T eT]) p2 q2.isList ↑hv hne λh' zs' p2' pr hs' hk=>?_);have hN:Hi s.heap.objs.size=none:=I.hok.fresh (HY _);have ru:aX (kV (Sum.inl (i:Int):aF)) (Value.int i s.toks):=#[s.toks,rfl]
   have I1:Inv X pins σ (upd Hi s.heap.objs.size (.tup [kV (Sum.inl (i:Int):aF),ys[i]])) { s with heap:=h',toks:=s.toks+1 }:=I.turnLaid (t':=s.toks+1) (ch:=[e,it]) (λb o hb q=>hk b o (λzz=>hb (by simp [zz])) (λzz=>hb (by simp [zz])) q) (λb hb=>fp b hb Hi (fr b hb)) (HY _)
     #[by show 2<=sizeLine; decide,[.int i s.toks,v],.cons ru (.cons rv .nil),#[_,pr,13]]
   have nN:∀b∈[e,it],b<s.heap.objs.size:=by
     intro b hb;simp only[Hh,ID,or_false] at hb;rcases hb with z|z
     . rw[z]; exact zs.lt
     . rw[z]; let#[o,ho,_]:=p2; exact Hm ho
   have nDN:D≠s.heap.objs.size:=λq=>by rw[q,hN] at eD; cases eD
   have eD1:upd Hi s.heap.objs.size (.tup [kV (Sum.inl (i:Int):aF),ys[i]]) D=⇑(.dK ((((cz ys.length).zip ys).take i).foldl 0x9 [])):=by rw[aM nDN]; exact eD
   refine HR (IW (HR (wpAny_tryCatch ?_)));show wpAny _ _ (Builtin.Dict.pairItems ↥s.heap.objs.size) _ _ _;unfold Builtin.Dict.pairItems;refine HR (Jl (T:="tuple") #[_,pr,rfl] ?_);rw[He #[]];refine HR ?_;show wpAny _ _ (load s.heap.objs.size >>= _) _ _ _;refine HR (wpAny_load pr ?_);refine Ha (Ha ?_);show wpAny _ _ (holding [Value.int i s.toks,v] (dictSet D (Value.int i s.toks) v)) _ _ _;refine IW ?_;let#[z',hd,vs,rel,dd]:=jG I1.hok eD1;have hl1:=flen (((cz ys.length).zip ys).take i) [];have hl2:(((cz ys.length).zip ys).take i).length<=((cz ys.length).zip ys).length:=by rw[IE]; lia
   simp only[JS,KH] at hl1;have hzv:vs.length<=sizeLine:=by rw[<- rel.length]; exact z'
   refine wpAny_dictSet_pairs (hsz:=hzv) (gJ ru) dd λh2' dd2 hs2=>?_;have he:∃q,h2'.get? D=⇑q:=by let#[q,_,_,hq,_]:=dd2; show#[q,hq]
   have hl3:(putK ((((cz ys.length).zip ys).take i).foldl 0x9 []) (Sum.inl (i:Int):aF) ys[i]).length<=sizeLine:=by exact Hu (dL _ _ _) (Hu (Nat.succ_le_succ (Hu hl1 hl2)) ∅)
   have I2:=jV (t':=({ s with heap:=h',toks:=s.toks+1 }:L5).toks+1) I1 (by rw[eD1]; exact True.intro) hs2 he (km hl3 hd (rel.put (Sum.inl (i:Int):aF) rv) dd2);have e3:(((cz ys.length).zip ys).take (i+1)).foldl 0x9 []=putK ((((cz ys.length).zip ys).take i).foldl 0x9 []) (Sum.inl (i:Int):aF) ys[i]:=by
     have hg:((cz ys.length).zip ys)[i]?=⇑((Sum.inl (i:Int):aF),ys[i]):=by rw[Jt];show#[CK hlt,by simp [hlt]]
     rw[IM,IX,hg];rfl
   rw[<- e3] at I2;refine Ha #[plainId_quiet gf _,?_];have up:∀c,c≠D->∀o,h'.get? c=⇑o->h2'.get? c=⇑o:=λc hc o e=>(hs2.2 c hc)\e;refine ih (i+1) 0 _ _ ⇑(m.getD s.heap.objs.size) ∅ ∅ I2 (aB.upd (sm\(aB.new hN)) hD) aI (zs'.at (up _ (nD e 0x8)) λT eT=>up T ?_) (λT eT=>?_) ?_ (λb hb=>?_)
   . cases eT;cases m with
     | none=>exact λq=>nDN q.symm
     | some T =>
       let#[xs,hT]:=hm T rfl;intro q;rw[show T=D from q,eD] at hT;cases hT
   . cases eT;cases m with
     | none=>show#[[kV (Sum.inl (i:Int):aF),ys[i]],by show upd (upd Hi s.heap.objs.size _) D _ s.heap.objs.size=_; rw[aM (λq=>nDN q.symm)]; exact aI]
     | some T =>
       let#[xs,hT]:=hm T rfl;show#[xs,?_];show upd (upd Hi s.heap.objs.size _) D _ T=_;rw[aM (show T≠D from λq=>by rw[q,eD] at hT; cases hT)];rw[aM (show T≠s.heap.objs.size from λq=>by rw[q,hN] at hT; cases hT)];exact hT
   . let#[o,ho,r]:=p2';show#[o,up _ (nD it 0x8) _ ho,r]
   . rw[aM (nD b hb),aM (IG (nN b hb))];exact fr b hb
abbrev sf (K:L7):List V->Hp->VK->Prop:=λxs H Q=>∃(l:L6) (ys:List V),xs=[↥l]/\aE K H l ys/\ys.length<=100000 /\
 ∀d H',H d=none->aB H H'->H' d=⇑(.dK (bf ys))->Q ↥d H'
def Ax {s:L5} {l:L6} {Q:VK} (hc:X.calm=true) (I:Inv X pins σ H s) (h:sf X.K [↥l] H Q) :
   wpAny 0x3 X.A (call (.type "enumerate") [↥l]) (λv s1=>wpAny 0x3 X.A (call (.type "dict") [v]) (EP X pins σ Q) X.xe s1) X.xe s:=by
 let#[l',ys,e,h2,hz,q]:=h;cases e;let#[is2,v2,p2,_]:=I.list h2;refine call_enumerate_list p2.isList λh' hen hit _ hk=>?_;have hA:=I.ok.hd hc;generalize hs1:({ s with heap:=h' }:L5)=s1;have ehp:s1.heap=h':=by rw[<- hs1]
 have I0:Inv X pins σ H s1:=by rw[<- hs1]; exact I.kept (t':=s.toks) hk
 have hD:H s1.heap.objs.size=none:=I0.hok.fresh (HY _);have I1:Inv X pins σ (upd H s1.heap.objs.size (.dK [])) { s1 with heap:=s1.heap.push { cls:=.type "dict",data:=.dict 0xC } } :=
   I0.laid (a:=s1.heap.objs.size) (o:=.dK []) (t':=s1.toks) (λ_ _ q=>HW _ q) (HY _) (nR s1.heap I0.big)
 refine callType_codes (Q₁:=λobj s₁=>obj=↥s1.heap.objs.size/\s₁={ s1 with heap:=s1.heap.push { cls:=.type "dict",data:=.dict 0xC } }) PySem.F.kt_called_dict (Kb _) Kq (kt_code_dict_new _ #[7]) ?_;rintro obj s₁ ⟨rfl,rfl⟩;have hnew:(s1.heap.push { cls:=.type "dict",data:=.dict 0xC }).DictOf (br X.prog X.w) s1.heap.objs.size []:=Heap.DictOf.new s1.heap;show#[hnew.typeIs,Ki _ _,?_];unfold Builtin.«dict.__init__»;refine HR ?_;unfold Builtin.Dict.selfAndRest;refine HR (wpAny_notOrdered_dict hnew.typeIs ?_);show wpAny _ _ (pure (s1.heap.objs.size,[Value.ref (s.heap.objs.size+1)])) _ _ _;refine Ha ?_;show wpAny _ _ (Builtin.Dict.updateFrom "dict.__init__" s1.heap.objs.size ↥(s.heap.objs.size+1) [] .none) _ _ _;unfold Builtin.Dict.updateFrom;have hen1:IsEnum (s1.heap.push { cls:=.type "dict",data:=.dict 0xC }) (s.heap.objs.size+1) s.heap.objs.size 0 .none:=HW _ (by rw[ehp]; exact hen);refine HR (Jl (T:="enumerate") #[_,hen1,rfl] ?_);rw[He #[]];refine HR (BP (s:={ s1 with heap:=s1.heap.push { cls:=.type "dict",data:=.dict 0xC } }) hen1 rfl rfl rfl hA λh3 tk hk3=>?_);have I2:Inv X pins σ (upd H s1.heap.objs.size (.dK [])) { s1 with heap:=h3,toks:=tk }:=I1.kept hk3;rw[He 0x0];refine HR (KI ?_);have up:∀b o,h'.get? b=⇑o->h3.get? b=⇑o:=λb o e=>hk3 _ _ (HW _ (show s1.heap.get? b=⇑o by rw[ehp]; exact e));refine HR (Jj (s:={ s1 with heap:=h3,toks:=tk }) (up _ _ hen) ?_);have gO:∀b∈[s.heap.objs.size+1,s.heap.objs.size],s.heap.objs.size<=b/\b<s1.heap.objs.size:=λb hb=>by
   have h4:s.heap.objs.size+1<s1.heap.objs.size:=by rw[ehp]; exact Hm hen
   simp only[Hh,ID,or_false] at hb;rcases hb with e|e <;> (rw[e]; constructor <;> lia)
 refine Ha #[plainId_quiet gf _,?_];have fpk:∀b∈[s.heap.objs.size+1,s.heap.objs.size],∀H',H' b=none->dq X pins H' b:=λb hb H' hn=>I.fpOk (gO b hb).1 hn;refine DT (A:=X.A.in1) (H:=H) (D:=s1.heap.objs.size) hA (Kj _) h2 hD hz (λb hb=>IG (gO b hb).2) fpk (λs' H' J sm eD=>#[rfl,↥s1.heap.objs.size,H',J,rfl,q _ H' hD sm eD])
   ys.length 0 0 _ (upd H s1.heap.objs.size (.dK [])) none ∅ (Hw _) I2 (aB.new hD) (by rw[aI]; rfl) #[.none,up _ _ hen] (λT z=>by cases z) ?_ (λb hb=>?_)
 . let#[o,ho,r]:=hit;show#[o,up _ _ ho,r]
 . rw[aM (IG (gO b hb).2)];exact I.hok.fresh (gO b hb).1
def Cg {a:Expr} {ta:TA} {p pos p' pos':Pos} (hc:X.calm=true) (hg:Gl X "dict") (hm:X.mg "dict"=none) (hg2:Gl X "enumerate") (hm2:X.mg "enumerate"=none) (ha:PA X [a] ta)
   (hs:starEach [a] X.env=[(false,eval a X.env)]:=by rfl)
   (he:starEach [.Call (.Name "enumerate" p') [a] [] pos'] X.env=[(false,eval (.Call (.Name "enumerate" p') [a] [] pos') X.env)]:=by rfl) :
   PE X (.Call (.Name "dict" p) [.Call (.Name "enumerate" p') [a] [] pos'] [] pos) (pV (sf X.K) ta):=by
 intro pins s σ H Q I h;refine JM (fk I hg hm tX ?_);refine Ie ?_ he rfl;rw[he];show wpAny _ _ (spliced [(false,eval (.Call (.Name "enumerate" p') [a] [] pos') X.env)]) _ _ s;refine Calls.spliced_cons (Call_ (fk I hg2 hm2 qb (Ie (aQ (ha pos' pins s σ H _ I h) λus s1 z=>?_) hs rfl)));let#[vs,H1,I1,r1,q1]:=z;let#[l,ys,e,q]:=id q1;subst e;cases r1 with
 | cons r rr =>
   cases rr;cases r;exact aQ (Ax hc I1 q1) λv s2 q2=>Calls.spliced_nil q2
end
end L2
namespace PySem
open Sem (wp)
open AutoSeq1 (wpAny_loadPart')
def Fq (l:L6) (items:Array K') (n:Nat) (b:L6) (items2:Array K') (n2:Nat) (o:Obj) (hs0:¬(!items.isEmpty&&Builtin.List.listTooLong (items.size+items2.size))=true) (hs1:items.size<=sizeLine) (hs2:items.size+items2.size<=sizeLine+1) (hc:o.cls=.type "tuple") (hd:o.data=.seq items2 n2) :
   Meets (Builtin.«list.extend» #[[↥l,↥b],[]]) (λ_ R s=>s.heap.get? l=some { cls:=.type "list",dict:=none,data:=.seq items n,slots:=0xC }/\s.heap.get? b=⇑o/\R (.ok (.ret Value.none)) { s with heap:=s.heap.update l (Obj.mapSeq λx=>x++items2),toks:=s.toks }) :=
 .of_wp λprog w A R s h=>by
   let#[hp,g,d,tk,os]:=s;let#[cls,dict,data,slots]:=o;obtain rfl:cls=_:=hc;obtain rfl:data=_:=hd;let#[hl,hb,h]:=h;have f1:=AutoSeq1.idx_int; have f2:=AutoSeq1.sub_tuple_tuple; have f3:=AutoSeq1.sub_list_list; have f4:=AutoSeq1.sub_tuple_list; have f5:=AutoSeq1.sub_list_tuple
   have hz':(items++items2).size<=sizeLine+1:=by rw[Array.size_append]; exact hs2
   wp_walk using (wpAny_updateSeq hl rfl (hz:=hs1) (_hz':=hz')),wpAny_loadPart' hl,wpAny_loadPart' hb; show#[5,h]
end PySem
namespace L2
open PySem PySem.Spec PyProof.Rows
abbrev EL (K:L7):V->List V->Hp->VK->Prop:=λx vs H Q=>∃l b xs zs,x=↥l/\vs=[↥b]/\H l=⇑(.lst xs)/\aG K H b zs/\xs.length+zs.length<=sizeLine/\Q .non (upd H l (.lst (xs++zs)))
def sR {X:Cx}:jR X "list.extend" (EL X.K):=by
 intro pins s σ H x vs v us Q I rx rv h;let#[l,b,xs,zs,rfl,rfl,hH,hB,hz,q]:=h;cases rx;let#[u,rfl,ru]:=rv.one;cases ru;let#[z,its,n,r,hl,e]:=I.lstM hH;obtain⟨its2,r2,⟨o,e2,c2,n2,d2⟩,_⟩:=I.tuple hB;have hl2:=r2.length;have hsz:its.toArray.size+its2.toArray.size<=sizeLine:=by rw[Hn,Hn]; lia
 have hlong:¬ (!its.toArray.isEmpty&&Builtin.List.listTooLong (its.toArray.size+its2.toArray.size))=true:=by rw[qM hsz,Bool.and_false];exact Ho
 refine call_meets F.slot_list_extend #[_,e,rfl] F.entry_list_extend (F.args_list_extend_2 _ _)
   (Fq l its.toArray n b its2.toArray n2 o hlong (by rw[Hn]; lia) ∅ c2 d2) #[e,e2,?_]
 show#[.non,_,I.lset (its':=its++its2) hH e 0x8 (r.append r2) ?_,rfl,q];rw[HZ]
 lia
section
variable {X:Cx} {k:Nat} {f C:L6} {fd:FuncData} {ps:List Str} {sp:Sp} {m:Str} {pos apos:Pos} {o e:Expr} {es:List Expr} {t:TA} {ta:TE}
def li {pl:Sem Bool} (he:PE X.nox o ta) (c:Cls X.K C) (hm:Meth X.K C m f) (F:FnOk X.prog X.w X.K X.mg X.base (c9 X.prog X.w) k f fd ps sp) (hr:Room k X.A) (hb:dC X.K fd ps []) (ha:PA X.nox (e::es) t)
   (hst:starEach (e::es) X.env=(false,eval e X.env)::starEach es X.env:=by rfl) (hpl:(backTo pos (starEach es X.env)).any (·.1)=false:=by rfl)
   (ht:eval (.Call (.Attribute o m apos) (e::es) [] pos) X.env=(do
     let ov <- eval o X.env
     standAt apos.atName
     let (f,first) <- holding [ov] (getMethod ov m pl)
     callWith pos f first (backTo pos (starEach (e::es) X.env)) (backToKw pos (keywordEach [] X.env))):=by rfl) :
   PX X (.Call (.Attribute o m apos) (e::es) [] pos) (λσ H Q E=>kj C m sp [] E ta t σ H Q):=by
 intro pins s σ H Q E I h;refine PySem.W.methodCall_KW (pl:=pl) (Il (he pins s σ H _ (I.wish _) h) (λu s1 z205_=>?_) λ_ _ z=>z.elim) ht;let#[x,H1,I1,rx,a,dx,fs,ex,ea,l,q]:=z205_;have I1:=I1.unwish;subst ex;obtain rfl:u=Value.ref a:=rx;refine ky I1 ea c hm l ?_;refine PySem.W.callWith_K (first:=[↥a]) (h₀:=X.base) I.ok.mod.kin hm.kp (Il (ha pos pins s1 σ H1 _ (I1.wish _) q) (λus s2 z206_=>z206_.e λvs H2 I2 r q2=>#[I2.kIn,?_]) λ_ _ z=>z.elim) hst hpl;have I2:=I2.unwish;have r2:aU (↥a::vs) (↥a::us):=.cons rfl r;have q2:sp (↥a::vs) H2 Q E:=by have q3:sp (↥a::(vs++[])) H2 Q E:=q2;rw[IQ] at q3; exact q3
 have hl:(Value.ref a::us).length=ps.length:=by rw[<- r2.length]; exact F.len _ _ _ _ q2
 have hb2:BindsTo s2 fd ⟨↥a::us,[]⟩ (ps.zip (↥a::us)):=by have:=hb s2 (↥a::us) I2.kIn (by rw[IQ]; exact hl);rwa [IQ] at this
 refine Jp (Jk (F.run X.A X.stack s2 H2 #[↥a::us,[]] (↥a::us) (↥a::vs) Q E hr I2.env0 hb2 r2 q2) λrr s' hq=>?_);cases rr with
 | error ev=>show#[H2,s2,I2,hq]
 | ok fl =>
   cases fl with
   | ret u=>exact I2.after hq
   | next=>exact False.elim hq
   | brk=>exact False.elim hq
   | cont=>exact False.elim hq
end
section
variable {X:Cx} {k:Nat} {f C:L6} {fd:FuncData} {ps:List Str} {sp:Sp} {m:Str} {pos apos:Pos} {o:Expr} {ta:TE}
def DA {pl:Sem Bool} (he:PE X.nox o ta) (c:Cls X.K C) (hm:Meth X.K C m f) (F:FnOk X.prog X.w X.K X.mg X.base (c9 X.prog X.w) k f fd ps sp) (hr:Room k X.A) (hb:dC X.K fd ps [])
   (ht:eval (.Call (.Attribute o m apos) [] [] pos) X.env=(do
     let ov <- eval o X.env
     standAt apos.atName
     let (f,first) <- holding [ov] (getMethod ov m pl)
     callWith pos f first (backTo pos (starEach [] X.env)) (backToKw pos (keywordEach [] X.env))):=by rfl) :
   PX X (.Call (.Attribute o m apos) [] [] pos) (λσ H Q E=>kj C m sp [] E ta mG σ H Q):=by
 intro pins s σ H Q E I h;refine PySem.W.methodCall_KW (pl:=pl) (Il (he pins s σ H _ (I.wish _) h) (λu s1 z207_=>?_) λ_ _ z=>z.elim) ht;let#[x,H1,I1,rx,a,dx,fs,ex,ea,l,q]:=z207_;have I1:=I1.unwish;subst ex;obtain rfl:u=Value.ref a:=rx;refine ky I1 ea c hm l ?_;refine PySem.W.callWith_K0 (first:=[↥a]) I1.kIn hm.kp ?_;have r2:aU [V.ref a] [Value.ref a]:=.cons rfl .nil;have q2:sp [↥a] H1 Q E:=q;have hl:[Value.ref a].length=ps.length:=by rw[<- r2.length]; exact F.len _ _ _ _ q2
 have hb2:BindsTo s1 fd ⟨[↥a],[]⟩ (ps.zip [↥a]):=by have:=hb s1 [↥a] I1.kIn (by rw[IQ]; exact hl);rwa [IQ] at this
 refine Jp (Jk (F.run X.A X.stack s1 H1 #[[↥a],[]] [↥a] [↥a] Q E hr I1.env0 hb2 r2 q2) λrr s' hq=>?_);cases rr with
 | error ev=>show#[H1,s1,I1,hq]
 | ok fl =>
   cases fl with
   | ret u=>exact I1.after hq
   | next=>exact False.elim hq
   | brk=>exact False.elim hq
   | cont=>exact False.elim hq
end
def nw {H X:Hp} {a:L6} {o:HO} (e:upd H a o=X) (h:H a=none):aB H X/\X a=⇑o:=by subst e; show#[aB.new h,aI]
def iN {c A B:Prop} [Decidable c] (h:B) (hc:¬ c:=by decide +kernel):if c then A else B:=aa hc h
def iP {c A B:Prop} [Decidable c] (h:A) (hc:c:=by decide +kernel):if c then A else B:=ah hc h
end L2
namespace Cw
open PySem PySem.W PyProof.Rows L2 Gx Fl Wk Rk2
variable {K:L7}
def CM {X:Cx} {e:PySem.Expr} {f:Str} {pos:PySem.Pos} {ta:TE} (hK:X.K=K) (he:PE X e ta) (hb:attributeBase e f X.env (eval e X.env)=eval e X.env):PE X (.Attribute e f pos) (pW K ta f):=hK ▸ ug he hb
def FI {X:Cx} {tg l:Expr} (f:L7->TI) (h:X.K=K) (p:PI X tg l (f X.K)):PI X tg l (f K):=h ▸ p
variable {H:Hp}
def cy {H':Hp}{z:L6} (e:aB H H') (h:H z=none):aB H (ers z H'):=λb o hb=>by rw[ak (λy=>by rw[y,h] at hb; cases hb)]; exact e _ _ hb
abbrev uF (K:L7):List V->Hp->VK->Prop:=λxs H Q=>∃p ys,xs=[↥p]/\((aE K H p ys/\∀l,H l=none->Q ↥l (upd H l (.tup ys)))\/aG K H p ys/\Q ↥p H)
inductive Ac where
 | go (n:Nat)
 | call (g:Str) (ts:List Tr) (n:Nat)
 | wait (b:Option Int) (n:Nat)
 | back (t:Tr)
 | ifs (t:Tr) (n m:Nat)
 | out (t:Tr) (n:Nat)
 | put (t:Tr) (f:Str) (u:Tr) (n:Nat)
 | get (t:Tr) (f:Str) (b:Option Int) (n:Nat)
 | new (b:Option Int) (n:Nat)
structure Spt where
 sets:List (Int×Tr)
 act:Ac
structure Mk where
 ch:List (Str×Nat)
 vs:List (List (Option Tr))
abbrev ki:Hl Int->V
 | none=>.non
 | some i=>.int i
abbrev fg:Ac->List Tr
 | .call _ ts _=>ts
 | .back t=>[t]
 | .ifs t _ _=>[t]
 | .out t _=>[t]
 | .put t _ u _=>[t,u]
 | .get t _ _ _=>[t]
 | _=>[]
abbrev kind:Ac->Str
 | .go _=>"go"
 | .call _ _ _=>"call"
 | .wait _ _=>"wait"
 | .back _=>"back"
 | .ifs _ _ _=>"if"
 | .out _ _=>"out"
 | .put _ _ _ _=>"put"
 | .get _ _ _ _=>"get"
 | .new _ _=>"new"
section
variable (K:L7) (H:Hp)
abbrev jz:Ac->List V->Prop
 | .go n,xs=>xs=[.int n]
 | .call g ts n,xs=>∃q us,xs=[.str g,↥q,.int n]/\aG K H q us/\Ps (RAt H) us ts
 | .wait b n,xs=>xs=[ki b,.int n]
 | .back t,xs=>∃x,xs=[x]/\RAt H t x
 | .ifs t n m,xs=>∃x,xs=[x,.int n,.int m]/\RAt H t x
 | .out t n,xs=>∃x,xs=[x,.int n]/\RAt H t x
 | .put t f u n,xs=>∃x y,xs=[x,.str f,y,.int n]/\RAt H t x/\RAt H u y
 | .get t f b n,xs=>∃x,xs=[x,.str f,ki b,.int n]/\RAt H t x
 | .new b n,xs=>xs=[ki b,.int n]
abbrev iB (a:Ac) (v:V):Prop:=∃p xs,v=↥p/\aG K H p (.str (kind a)::xs)/\jz K H a xs
abbrev jC (s:Int×Tr) (u:V):Prop:=∃q x,u=↥q/\aG K H q [.int s.1,x]/\RAt H s.2 x
abbrev gg (s:Spt) (u:V):Prop:=∃q p us av,u=↥q/\aG K H q [↥p,av]/\aG K H p us/\Ps (jC K H) us s.sets/\iB K H s.act av
abbrev kQ (d:L6) (cs:List (Str×List Spt)):Prop:=∃kvs,H d=⇑(.dK kvs)/\∀g ss,(g,ss)∈cs->∃l us,au kvs (Sum.inr g:aF)=⇑↥l/\H l=⇑(.lst us)/\Ps (gg K H) us ss
abbrev nK (kvs:List (aF×V)) (cs:List (Str×List Spt)):Prop:=∀g ss,(g,ss)∈cs->∃l us,au kvs (Sum.inr g:aF)=⇑↥l/\H l=⇑(.lst us)/\Ps (gg K H) us ss
abbrev dI (p:Str×Nat) (u:V):Prop:=∃q,u=↥q/\aG K H q [.str p.1,.int p.2]
abbrev bp (o:Hl Tr) (u:V):Prop:=match o with
 | none=>u=.non
 | some t=>RAt H t u
abbrev jy (pl:List (Hl Tr)) (u:V):Prop:=∃q us,u=↥q/\aG K H q us/\Ps (bp H) us pl
abbrev gA (c:L6) (ch:List (Str×Nat)):Prop:=∃us,aG K H c us/\Ps (dI K H) us ch
abbrev gp (m:Mk) (u:V):Prop:=∃q c l us,u=↥q/\aG K H q [↥c,↥l]/\gA K H c m.ch/\H l=⇑(.lst us)/\Ps (jy K H) us m.vs
abbrev kS (d:L6) (ms:List 0xA):Prop:=∃kvs,H d=⇑(.dK kvs)/\∀g l,(g,l)∈ms->∃a us,au kvs (Sum.inr g:aF)=⇑↥a/\H a=⇑(.lst us)/\Ps (gp K H) us l
abbrev nU (kvs:List (aF×V)) (ms:List 0xA):Prop:=∀g l,(g,l)∈ms->∃a us,au kvs (Sum.inr g:aF)=⇑↥a/\H a=⇑(.lst us)/\Ps (gp K H) us l
abbrev kK (s:Spt) (u:V):Prop:=∃q p us av,u=↥q/\aG K H q [↥p,av]/\aE K H p us/\Ps (jC K H) us s.sets/\iB K H s.act av
abbrev mP (c:Str×List Spt) (u:V):Prop:=∃q l us,u=↥q/\aG K H q [.str c.1,↥l]/\aE K H l us/\Ps (kK K H) us c.2
abbrev jB (v:V) (cs:List (Str×List Spt)):Prop:=∃p us,v=↥p/\aE K H p us/\Ps (mP K H) us cs
abbrev lB (pl:List (Hl Tr)) (u:V):Prop:=∃q us,u=↥q/\aE K H q us/\Ps (bp H) us pl
abbrev dD (m:Mk) (u:V):Prop:=∃q c l us,u=↥q/\aG K H q [↥c,↥l]/\gA K H c m.ch/\aE K H l us/\Ps (lB K H) us m.vs
abbrev nM (c:Str×List Mk) (u:V):Prop:=∃q l us,u=↥q/\aG K H q [.str c.1,↥l]/\aE K H l us/\Ps (dD K H) us c.2
abbrev i' (v:V) (ms:List 0xA):Prop:=∃p us,v=↥p/\aE K H p us/\Ps (nM K H) us ms
end
section
variable {K:L7} {H H':Hp} (e:aB H H')
include e
def oW {us:List V} {ts:List Tr} (h:Ps (RAt H) us ts):Ps (RAt H') us ts:=Ps.imp (λ_ _ z=>z*>e) h
def jz.mono:∀{a:Ac} {xs:List V},jz K H a xs->jz K H' a xs
 | .go _,_,h=>h
 | .call _ _ _,_,h=>by let#[q,us,h1,h2,h3]:=h; show#[q,us,h1,e<*h2,oW e h3]
 | .wait _ _,_,h=>h
 | .back _,_,h=>by let#[x,h1,h2]:=h; show#[x,h1,h2*>e]
 | .ifs _ _ _,_,h=>by let#[x,h1,h2]:=h; show#[x,h1,h2*>e]
 | .out _ _,_,h=>by let#[x,h1,h2]:=h; show#[x,h1,h2*>e]
 | .put _ _ _ _,_,h=>by let#[x,y,h1,h2,h3]:=h; show#[x,y,h1,h2*>e,h3*>e]
 | .get _ _ _ _,_,h=>by let#[x,h1,h2]:=h; show#[x,h1,h2*>e]
 | .new _ _,_,h=>h
def iB.mono {a:Ac} {v:V} (h:iB K H a v):iB K H' a v:=by let#[p,xs,h1,h2,h3]:=h; show#[p,xs,h1,e<*h2,h3*>e]
def jC.mono {s:Int×Tr} {u:V} (h:jC K H s u):jC K H' s u:=by let#[q,x,h1,h2,h3]:=h; show#[q,x,h1,e<*h2,h3*>e]
def gg.mono {s:Spt} {u:V} (h:gg K H s u):gg K H' s u:=by let#[q,p,us,av,h1,h2,h3,h4,h5]:=h; show#[q,p,us,av,h1,e<*h2,e<*h3,Ps.imp (λ_ _ z=>z*>e) h4,h5*>e]
def kQ.mono {d:L6} {cs:List (Str×List Spt)} (h:kQ K H d cs):kQ K H' d cs:=by let#[kvs,h1,h2]:=h;show#[kvs,e _ _ h1,λg ss m=>?_];let#[l,us,a,b,c]:=h2 g ss m;show#[l,us,a,e _ _ b,Ps.imp (λ_ _ z=>z*>e) c]
def dI.mono {p:Str×Nat} {u:V} (h:dI K H p u):dI K H' p u:=by let#[q,h1,h2]:=h; show#[q,h1,e<*h2]
def bp.mono {o:Hl Tr} {u:V} (h:bp H o u):bp H' o u:=by
 cases o with
 | none=>exact h
 | some t=>exact RAt.mono (t:=t) e h
def jy.mono {pl:List (Hl Tr)} {u:V} (h:jy K H pl u):jy K H' pl u:=by let#[q,us,h1,h2,h3]:=h; show#[q,us,h1,e<*h2,Ps.imp (λ_ _ z=>bp.mono e z) h3]
def gA.mono {c:L6} {ch:List (Str×Nat)} (h:gA K H c ch):gA K H' c ch:=by let#[us,h1,h2]:=h; show#[us,e<*h1,Ps.imp (λ_ _ z=>z*>e) h2]
def gp.mono {m:Mk} {u:V} (h:gp K H m u):gp K H' m u:=by let#[q,c,l,us,h1,h2,h3,h4,h5]:=h; show#[q,c,l,us,h1,e<*h2,h3*>e,e _ _ h4,Ps.imp (λ_ _ z=>z*>e) h5]
def kS.mono {d:L6} {ms:List 0xA} (h:kS K H d ms):kS K H' d ms:=by let#[kvs,h1,h2]:=h;show#[kvs,e _ _ h1,λg ss m=>?_];let#[l,us,a,b,c]:=h2 g ss m;show#[l,us,a,e _ _ b,Ps.imp (λ_ _ z=>z*>e) c]
def kK.mono {s:Spt} {u:V} (h:kK K H s u):kK K H' s u:=by let#[q,p,us,av,h1,h2,h3,h4,h5]:=h; show#[q,p,us,av,h1,e<*h2,e.seq h3,Ps.imp (λ_ _ z=>z*>e) h4,h5*>e]
def mP.mono {c:Str×List Spt} {u:V} (h:mP K H c u):mP K H' c u:=by let#[q,l,us,h1,h2,h3,h4]:=h; show#[q,l,us,h1,e<*h2,e.seq h3,Ps.imp (λ_ _ z=>z*>e) h4]
def jB.mono {v:V} {cs:List (Str×List Spt)} (h:jB K H v cs):jB K H' v cs:=by let#[p,us,h1,h2,h3]:=h; show#[p,us,h1,e.seq h2,Ps.imp (λ_ _ z=>z*>e) h3]
def lB.mono {pl:List (Hl Tr)} {u:V} (h:lB K H pl u):lB K H' pl u:=by let#[q,us,h1,h2,h3]:=h; show#[q,us,h1,e.seq h2,Ps.imp (λ_ _ z=>bp.mono e z) h3]
def dD.mono {m:Mk} {u:V} (h:dD K H m u):dD K H' m u:=by let#[q,c,l,us,h1,h2,h3,h4,h5]:=h; show#[q,c,l,us,h1,e<*h2,h3*>e,e.seq h4,Ps.imp (λ_ _ z=>z*>e) h5]
def nM.mono {c:Str×List Mk} {u:V} (h:nM K H c u):nM K H' c u:=by let#[q,l,us,h1,h2,h3,h4]:=h; show#[q,l,us,h1,e<*h2,e.seq h3,Ps.imp (λ_ _ z=>z*>e) h4]
def i'.mono {v:V} {ms:List 0xA} (h:i' K H v ms):i' K H' v ms:=by let#[p,us,h1,h2,h3]:=h; show#[p,us,h1,e.seq h2,Ps.imp (λ_ _ z=>z*>e) h3]
end
def nK.put {G G':Hp} {kvs:List (aF×V)} {cs:List (Str×List Spt)} {g:Str} {ss:List Spt} {l:L6} {us:List V} (h:nK K G kvs cs) (e:aB G G') (hl:G' l=⇑(.lst us)) (hu:Ps (gg K G') us ss) (nd:∀c∈cs,c.1≠g):nK K G' (putK kvs (Sum.inr g:aF) ↥l) (cs++[(g,ss)]):=λg2 s2 m=>by
 rcases IH.mp m with m|m
 . let#[l2,us2,a,b,c]:=h g2 s2 m;show#[l2,us2,by rw[cf,HX λz=>nd _ m (Sum.inr.inj z)]; exact a,e _ _ b,Ps.imp (λ_ _ z=>z*>e) c]
 . cases IC.mp m;show#[l,us,by rw[cf,He rfl],hl,hu]
def nU.put {G G':Hp} {kvs:List (aF×V)} {cs:List 0xA} {g:Str} {ss:List Mk} {l:L6} {us:List V} (h:nU K G kvs cs) (e:aB G G') (hl:G' l=⇑(.lst us)) (hu:Ps (gp K G') us ss) (nd:∀c∈cs,c.1≠g):nU K G' (putK kvs (Sum.inr g:aF) ↥l) (cs++[(g,ss)]):=λg2 s2 m=>by
 rcases IH.mp m with m|m
 . let#[l2,us2,a,b,c]:=h g2 s2 m;show#[l2,us2,by rw[cf,HX λz=>nd _ m (Sum.inr.inj z)]; exact a,e _ _ b,Ps.imp (λ_ _ z=>z*>e) c]
 . cases IC.mp m;show#[l,us,by rw[cf,He rfl],hl,hu]
def w9 {α:Type} {cs:List (Str×α)} {i:Nat} {c:Str×α} (nd:(cs.map (·.1)).Nodup) (h:cs[i]?=⇑c):∀d∈cs.take i,d.1≠c.1:=λd hd z=>by
 let#[j,hj]:=JU.mp hd;rw[List.getElem?_take] at hj;split at hj
 . rename_i hji
   have e1:(cs.map (·.1))[j]?=⇑d.1:=by rw[Hk,hj]; rfl
   have e2:(cs.map (·.1))[i]?=⇑c.1:=by rw[Hk,h]; rfl
   rw[z,<- e2] at e1;have hjl:j<(cs.map (·.1)).length:=by rw[HS];exact(HV.mp hj).1
   have:=(K1 hjl nd).mp e1
   lia
 . cases hj
def jT {α:Type} {R:α->V->Prop}:∀{vs:List V} {ts:List α},vs.length=ts.length->(∀(i:Nat) v,vs[i]?=⇑v->∃t,ts[i]?=⇑t/\R t v)->Ps R vs ts
 | [],[],_,_=>trivial
 | v::vs,t::ts,e,h=>by
   show#[?_,jT ↑e λi w hw=>?_]
   . let#[u,hu,r]:=h 0 v rfl;cases hu;exact r
   . exact h (i+1) w ↑hw
 | [],_::_,e,_=>by cases e
 | _::_,[],e,_=>by cases e
abbrev ko (cs:List (Str×List Spt)) (f:Fm) (s:Spt):Prop:=∃ss,(f.fn,ss)∈cs/\ss[f.spot]?=⇑s
abbrev fC (ms:List 0xA) (f:Fm) (m:Mk):Prop:=∃l,(f.fn,l)∈ms/\l[f.spot]?=⇑m
abbrev Ow (fs:List Fm) (wl:List V) (i:Nat) (f:Fm):Prop:=f∈fs/\(wl[i]?=⇑↥f.a\/(wl.length<=i/\∃fs0,fs=fs0++[f]))
structure Lv (ms:List 0xA) (fs:List Fm) (wl:List V) (i:Nat) (f:Fm) (m:Mk) (p:Str×Nat) (pl:List (Option Tr)):Prop where
 ow:Ow fs wl i f
 ma:fC ms f m
 fi:f.first<=i
 at_:m.ch[i - f.first]?=⇑p
 pl_:m.vs[i - f.first]?=⇑pl
def c8 {α:Type} {R:α->V->Prop}:∀{vs:List V} {ts:List α} {i:Nat} {t:α},Ps R vs ts->ts[i]?=⇑t->∃v,vs[i]?=⇑v/\R t v
 | v::vs,t::ts,0,_,h,e=>by cases e; show#[v,rfl,h.1]
 | v::vs,t::ts,i+1,_,h,e=>c8 (i:=i) h.2 ↑e
 | [],[],_,_,_,e=>by cases e
def qc (ss:List Str):(ss.map V.str).all eM=true:=by rw[List.all_map]; exact K9.mpr λ_ _=>rfl
def vR {n:Str} {ss:List Str} (h:n∈ss):eS (.str n) (ss.map V.str)=true:=(K12.inV_map n ss)\(Hf h)
def Es {n:Str} {ss:List Str} (h:n∈ss):∃z,(ss.map V.str)[ss.idxOf n]?=⇑z/\dS z (.str n)=true:=by have hl:=J3 h;show#[.str n,by rw[Hk,HU hl,List.getElem_idxOf]; rfl,?_];simp [dS]
def Dk {n:Str} {ss:List Str}:∀(m:Nat) (z:V),m<ss.idxOf n->(ss.map V.str)[m]?=⇑z->dS z (.str n)=false:=by
 induction ss with
 | nil=>intro m z hm; simp at hm
 | cons s ss ih =>
   intro m z hm hz;rw[List.idxOf_cons] at hm;by_cases e:(s==n)=true
   . rw[e] at hm; simp at hm
   . rw[Bool.not_eq_true] at e;rw[e] at hm;cases m with
     | zero=>cases hz; simpa [dS] using e
     | succ m=>exact ih m z (by simp at hm; lia) ↑hz
def mY {u:Tr} {v:V} (h:RAt H u v):v≠.non:=by
 cases u with
 | box k=>let#[p,rfl,_]:=h; intro z; cases z
 | num k=>let#[p,rfl,_]:=h; intro z; cases z
 | op s a b=>let#[p,x,y,rfl,_]:=h; intro z; cases z
def fJ {n:Nat} (h:n<1000000):n<=sizeLine:=Jw (Rk2.lt_line' h)
def qi (xs:List V) (n:Nat):dM xs none ⇑(n:Int)=xs.take n:=by
 unfold dM;rw[show HT.sIx xs.length xs.length ⇑((n:Nat):Int)=min n xs.length from HT.sIx_nat _ _ n,HT.sIx_none,Kw,Nat.sub_zero];by_cases h:n<=xs.length
 . rw[KM h]
 . rw[Kk ∅,Ic (HY _),Ic ∅]
def rep_one {x:V}:∀k:Nat,(List.replicate k [x]).flatten=List.replicate k x
 | 0=>rfl
 | k+1=>by rw[JK,J2,rep_one k]; rfl
variable {x:L6}
def iE :ers x H x=none:=by unfold L2.ers; rw[He rfl]
def pO {o:HO}:aB (ers x H) (upd H x o):=λb u e=>by
 have ne:b≠x:=λz=>by rw[z,iE] at e; cases e
 rw[aM ne];exact bO _ _ e
def BC {H':Hp}(e:aB (ers x H) H'):aB (ers x H) (ers x H'):=cy e iE
def pI {l:L6} {xs:List V} (hl:H l=⇑(.lst xs)) {t:Tr}:∀{v:V},RAt H t v->RAt (ers l H) t v:=by
 have k:∀p ys,H p=⇑(.tup ys)->ers l H p=⇑(.tup ys):=λp ys e=>by rw[ak (λz=>by rw[z,hl] at e; cases e)]; exact e
 induction t with
 | box j=>intro v h; let#[p,h1,h2]:=h; show#[p,h1,k _ _ h2]
 | num j=>intro v h; let#[p,h1,h2]:=h; show#[p,h1,k _ _ h2]
 | op s a b iha ihb=>intro v h; let#[p,x,y,h1,h2,h3,h4,h5,h6]:=h; show#[p,x,y,h1,k _ _ h2,h3,h4,iha h5,ihb h6]
def gm {Hb A B:Hp}(s:aB A B):aB (gr Hb H A) (gr Hb H B):=λb o e=>by
 unfold gr at e ⊢;cases h:H b with
 | none=>rw[h] at e; exact s _ _ e
 | some u=>rw[h] at e; exact e
def vA {Hb A:Hp}{o:HO}:ers x (gr Hb H (upd A x o))=ers x (gr Hb H A):=by
 funext b;by_cases z:b=x
 . rw[z,iE,iE]
 . rw[ak z,ak z];unfold gr;rw[aM z]
abbrev d9 (kvs:List (aF×V)) (ss:List (Int×Tr)):List (Int×Int):=ss.map λs=>(s.1,wv (fOf kvs) s.2)
abbrev gG (kvs:List (aF×V)) (l:List (Int×Int)):List (aF×V):=l.foldl (λa p=>putK a (Sum.inl p.1:aF) (.int p.2)) kvs
def pX:∀(l:List (Int×Int)) (kvs:List (aF×V)),(gG kvs l).length<=kvs.length+l.length
 | [],_=>HY _
 | p::l,kvs=>by have h:=pX l (putK kvs (Sum.inl p.1:aF) (.int p.2));have h2:=Rk2.putK_len kvs (Sum.inl p.1:aF) (.int p.2);rw[II];exact Hu h ∅
def Du {kvs:List (aF×V)} {l:List (Int×Int)} {i:Nat} {p:Int×Int} (h:l[i]?=⇑p):gG kvs (l.take (i+1))=putK (gG kvs (l.take i)) (Sum.inl p.1:aF) (.int p.2):=by rw[IM,h];unfold gG;rw[IX];rfl
abbrev setK (kvs:List (aF×V)) (ss:List (Int×Tr)):List (aF×V):=gG kvs (d9 kvs ss)
abbrev iR (kvs:List (aF×V)) (b:Hl Int) (z:Int):List (aF×V):=match b with
 | none=>kvs
 | some k=>putK kvs (Sum.inl k:aF) (.int z)
abbrev da (t:Tr):Prop:=dp t<10/\okl (lvs t)
abbrev rtab:List (Str×List V):=[("go",[]),("if",[.int 1]),("out",[.int 1]),("put",[.int 1,.int 3]),("get",[.int 1]),("new",[]),("wait",[]),("back",[.int 1])]
def tI {a:Ac} {xs:List V} (h:jz K H a xs):aq (V.str (kind a)::xs) 0=⇑(.str (kind a))/\∃us,Ps (RAt H) us (fg a)/\((kind a="call"/\∃p,aq (V.str (kind a)::xs) 2=⇑↥p/\aG K H p us)\/(kind a≠"call"/\∃pl:List Int,KTD.datumAt (kind a) rtab=⇑(pl.map V.int)/\pl.length=us.length/\∀(i:Nat) (u:V),us[i]?=⇑u->∃p,pl[i]?=⇑p/\aq (V.str (kind a)::xs) p=⇑u)):=by
 cases a with
 | go n=>obtain rfl:xs=_:=h; show#[rfl,[],trivial,.inr #[(show("go":Str)≠"call" by decide +kernel),[],(show KTD.datumAt ("go":Str) rtab=_ by decide +kernel),rfl,λi u e=>by simp at e]]
 | call g ts n=>let#[q,us,rfl,h2,h3]:=h; show#[rfl,us,h3,.inl #[rfl,q,rfl,h2]]
 | wait b n=>obtain rfl:xs=_:=h; show#[rfl,[],trivial,.inr #[(show("wait":Str)≠"call" by decide +kernel),[],(show KTD.datumAt ("wait":Str) rtab=_ by decide +kernel),rfl,λi u e=>by simp at e]]
 | back t=>let#[x,rfl,h2]:=h; show#[rfl,[x],#[h2,trivial],.inr #[(show("back":Str)≠"call" by decide +kernel),[1],(show KTD.datumAt ("back":Str) rtab=_ by decide +kernel),rfl,λi u e=>by match i,e with|0,e=>exact⟨1,rfl,e⟩]]
 | ifs t n m=>let#[x,rfl,h2]:=h; show#[rfl,[x],#[h2,trivial],.inr #[(show("if":Str)≠"call" by decide +kernel),[1],(show KTD.datumAt ("if":Str) rtab=_ by decide +kernel),rfl,λi u e=>by match i,e with|0,e=>exact⟨1,rfl,e⟩]]
 | out t n=>let#[x,rfl,h2]:=h; show#[rfl,[x],#[h2,trivial],.inr #[(show("out":Str)≠"call" by decide +kernel),[1],(show KTD.datumAt ("out":Str) rtab=_ by decide +kernel),rfl,λi u e=>by match i,e with|0,e=>exact⟨1,rfl,e⟩]]
 | put t f u n=>let#[x,y,rfl,h2,h3]:=h; show#[rfl,[x,y],#[h2,h3,trivial],.inr #[(show("put":Str)≠"call" by decide +kernel),[1,3],(show KTD.datumAt ("put":Str) rtab=_ by decide +kernel),rfl,λi u e=>by match i,e with|0,e=>exact⟨1,rfl,e⟩|1,e=>exact⟨3,rfl,e⟩]]
 | get t f b n=>let#[x,rfl,h2]:=h; show#[rfl,[x],#[h2,trivial],.inr #[(show("get":Str)≠"call" by decide +kernel),[1],(show KTD.datumAt ("get":Str) rtab=_ by decide +kernel),rfl,λi u e=>by match i,e with|0,e=>exact⟨1,rfl,e⟩]]
 | new b n=>obtain rfl:xs=_:=h; show#[rfl,[],trivial,.inr #[(show("new":Str)≠"call" by decide +kernel),[],(show KTD.datumAt ("new":Str) rtab=_ by decide +kernel),rfl,λi u e=>by simp at e]]
end Cw
namespace L2
open PySem PySem.Spec PyProof.Rows
inductive TyD (K:W.Frag) (H:Hp):V->Value->Prop where
 | of {x:V} {t:Value} (h:TyOf K H x t):TyD K H x t
 | tup {a:Addr} {xs:List V} (h:aG K H a xs):TyD K H ↥a (.type "tuple")
 | lst {a:Addr} {xs:List V} (h:aE K H a xs):TyD K H ↥a (.type "list")
def nV {X:Cx}:aw X (.builtin "isinstance") (λxs H Q=>∃x c t b,xs=[x,.ty c]/\TyD X.K H x t/\PySem.W.kitOne X.K t (.type c)=⇑b/\Q (.bl b) H):=by
 intro pins s σ H xs us Q I r h;let#[x,c,t,b,rfl,ty,hk,q]:=h;let#[u,w',rfl,rx,rc]:=oV r;cases (show w'=Value.type c from rc);cases ty with
 | of ty=>exact tY I rx ty hk λtk=>#[.bl b,H,I.tok _,rfl,q]
 | @tup a xs h =>
   cases (show u=Value.ref a from rx);obtain⟨_,_,⟨o,h1,h2,_⟩,_⟩:=I.tuple h;exact PySem.W.kia_one PySem.W.kitx_tuple I.kIn #[o,h1,h2] hk (λz=>nomatch z) λtk=>#[.bl b,H,I.tok _,rfl,q]
 | @lst a xs h =>
   cases (show u=Value.ref a from rx);let#[_,_,pl,_]:=I.list h;let#[o,h1,h2,_]:=pl.isList;exact PySem.W.kia_one PySem.W.kitx_list I.kIn #[o,h1,h2] hk (λz=>nomatch z) λtk=>#[.bl b,H,I.tok _,rfl,q]
section
variable {X:Cx} {a b e:Expr} {ta tb te:TE} {pos:Pos}
def iT (K:L7) {i:Int} {j:Nat} {p:Pos} (ha:PE X a ta) (h:X.K=K:=by rfl):PE X (.Subscript a (.Constant (.int i) j p) pos) (gT (jk K) ta (tC (.int i))):=h ▸ ae oP ha aH 0x5
def iL (K:L7) {i:Int} {j:Nat} {p:Pos} (ha:PE X a ta) (h:X.K=K:=by rfl):PE X (.Subscript a (.Constant (.int i) j p) pos) (gT (bA K) ta (tC (.int i))):=h ▸ ae bC ha aH 0x5
def iX (K:L7) (ha:PE X a ta) (hb:PE X b tb) (hs:pR b:=by exact λ_ _=>rfl) (h:X.K=K:=by rfl):PE X (.Subscript a b pos) (gT (jk K) ta tb):=h ▸ ae oP ha hb hs
def iY (K:L7) (ha:PE X a ta) (hb:PE X b tb) (hs:pR b:=by exact λ_ _=>rfl) (h:X.K=K:=by rfl):PE X (.Subscript a b pos) (gT (bA K) ta tb):=h ▸ ae bC ha hb hs
def pS (i:Nat) {x:Str} {pos':Pos} (hN:X.N.Nodup) (he:PE X e te) (hi:X.N[i]?=⇑x:=by rfl) (hx:iz X.env.scope x:=by first|exact Or.inl rfl|exact Or.inr rfl) (hs:swapsWith e ⇑(.Name x pos') pos.line X.env=pure false:=by rfl) (hf:X.fn x=true\/X.env.scope.names.lookup x=some .local:=by first|exact .inl rfl|exact .inr rfl|assumption):PS X (.Assign [.Name x pos'] e pos) (mV te (fw i)):=dO hN hi hx he hs hf
def fD {f:Str} (he:PE X e ta) (hb:attributeBase e f X.env (eval e X.env)=eval e X.env:=by rfl):PE X (.Attribute e f pos) (pW X.K ta f):=ug he hb
def cD {k k':Nat} {f:L6} {fd:FuncData} {ps:List Str} {sp:Sp} {x:Str} {st:Stmt} {p:Pos} {es:List Expr} {t:TA} (D:DefOk X.K X.mg x st ps f fd) (G:FnOk X.prog X.w X.K X.mg X.base CX0 k f fd ps sp) (hr:Room k' X.A) (ha:PA X (e::es) t) (hk:k<=k':=by decide) (hg:Gl X x:=by rfl)
   (hdb:(x==("__debug__":Str))=false:=by decide) (he:starEach (e::es) X.env=(false,eval e X.env)::starEach es X.env:=by rfl) (hpl:(backTo pos (starEach es X.env)).any (·.1)=false:=by rfl) :
   PE X (.Call (.Name x p) (e::es) [] pos) (mz sp [] E0 t):=cP D G (hr*>hk) ha hg hdb he hpl
end
end L2
namespace Cw
open PySem PySem.W PyProof.Rows L2 Gx Fl Wk Rk2
def E3 {kvs:List (aF×V)} {t:Tr} (h:DV kvs) (ok:da t):0<=wv (fOf kvs) t/\wv (fOf kvs) t<K21.wide:=i9 (kR h) ok.2
def Ct (ys:List V) (y:V):bf (ys++[y])=putK (bf ys) (Sum.inl (ys.length:Int):aF) y:=by
 unfold bf;rw[HZ,JR];have e:cz (ys.length+1)=cz ys.length++[(Sum.inl (ys.length:Int):aF)]:=by unfold cz;rw[Ju,Hq];rfl
 rw[e,List.zip_append (vI _),IX];rfl
def qQ {ys:List V} {i:Nat} {y:V} (h:ys[i]?=⇑y):bf (ys.take (i+1))=putK (bf (ys.take i)) (Sum.inl (i:Int):aF) y:=by have hi:=(HV.mp h).1;have e:=Ct (ys.take i) y;rw[IE,KM (Jw hi)] at e;rw[IM,h];exact e
def oM {ys:List V} (h:∀y∈ys,∃z,y=V.int z/\0<=z/\z<K21.wide):∀n,n<=ys.length->DV (bf (ys.take n))/\(bf (ys.take n)).length<=n
 | 0,_=>#[λk x e=>(nomatch (show(none:Hl V)=⇑x from e)),HY _]
 | n+1,hn=>by have ih:=oM h n ∅;have e:=HU (l:=ys) (i:=n) ∅;let#[z,hz,z0,z1]:=h _ (IA e);rw[qQ e,hz];show#[DV_put ih.1 z0 z1,Hu (putK_len _ _ _) ∅]
def oy {zs:List Int} (h:∀z∈zs,0<=z/\z<K21.wide):DV (bf (zs.map V.int))/\(bf (zs.map V.int)).length<=zs.length:=by have:=oM (ys:=zs.map V.int) (λy hy=>by let#[z,hz,rfl]:=IJ.mp hy; show#[z,rfl,h z hz]) zs.length (by rw[HS]; exact HY _);rwa [Ic (by rw[HS]; exact HY _)] at this
def wN {K:L7} {H:Hp}:∀{us ws:List V} {ch:List (Str×Nat)},Ps (dI K H) us ch->Ps (dI K H) ws ch->(∀p∈ch,PyData.strOk p.1=true)->Bg.TwinA K H 1 us ws
 | [],[],[],_,_,_=>.nil
 | u::us,w::ws,p::ch,h1,h2,ok=>by let#[q1,rfl,a1]:=h1.1;let#[q2,rfl,a2]:=h2.1;exact .cons (.tup a1 a2 (.of (.cons (.str (ok p Hj)) (.cons .int .nil)))) (wN h1.2 h2.2 λx hx=>ok x (Hv _ hx))
 | [],_::_,[],_,h,_=>h.elim
 | [],_,_::_,h,_,_=>h.elim
 | _::_,_,[],h,_,_=>h.elim
 | _::_,[],_::_,_,h,_=>h.elim
def vt:∀{ss acc:List Str},(∀s∈ss,s∈acc)->ss.foldl K12.step acc=acc
 | [],_,_=>rfl
 | s::ss,acc,h=>by show ss.foldl K12.step (K12.step acc s)=acc;rw[show K12.step acc s=acc from He (h s Hj)];exact vt λt ht=>h t (Hv _ ht)
def w6:∀{ss acc:List Str},(acc++ss).Nodup->ss.foldl K12.step acc=acc++ss
 | [],acc,_=>(IQ acc).symm
 | s::ss,acc,h=>by
   have hs:s ∉ acc:=λz=>by rw[K2] at h;exact h.2.2 s z s Hj rfl
   show ss.foldl K12.step (K12.step acc s)=_;rw[show K12.step acc s=acc++[s] from HX hs,w6 (by rw[Ib]; exact h),Ib];rfl
abbrev cps (l:List (L6×Str)):List K41.RR:=l.map λx=>Bg.rcopyV x.1 x.2 0
def tj:∀l:List (L6×Str),((cps l).map (·.d)).flatMap K12.rowStrs=l.map (·.2)
 | []=>rfl
 | x::l=>by show K12.rowStrs (Bg.rcopyV x.1 x.2 0).d++((cps l).map (·.d)).flatMap K12.rowStrs=x.2::l.map (·.2);rw[tj l];rfl
def uI {K:L7} {G:Hp}:∀{vs:List V} {ns:List Str},vs.length=ns.length->(∀(i:Nat) v,vs[i]?=⇑v->∃q n,ns[i]?=⇑n/\v=↥q/\aG K G q [.str "copy",.str n,.int 0])->∃la:List (L6×Str),vs=la.map (λx=>V.ref x.1)/\la.map (·.2)=ns/\∀x∈la,aG K G x.1 [.str "copy",.str x.2,.int 0]
 | [],[],_,_=>#[[],7,λx h=>by cases h]
 | [],_::_,h,_=>by cases h
 | _::_,[],h,_=>by cases h
 | v::vs,n::ns,l,h=>by
   let#[q,n',e1,rfl,e3]:=h 0 v rfl;cases e1;let#[la,rfl,rfl,a]:=uI (vs:=vs) (ns:=ns) ↑l λi v hv=>h (i+1) v ↑hv;show#[(q,n)::la,7,λx hx=>by
     rcases Hh.mp hx with rfl|hx
     . exact e3
     . exact a x hx]
def Ck (xs:List V) (n:Nat):dM xs ⇑(n:Int) none=xs.drop n:=by
 unfold dM;rw[show HT.sIx xs.length 0 ⇑((n:Nat):Int)=min n xs.length from HT.sIx_nat _ _ n,HT.sIx_none];by_cases h:n<=xs.length
 . rw[KM h,Ic (by rw[J5]; exact HY _)]
 . rw[Kk ∅,List.drop_eq_nil_of_le (HY _),List.drop_eq_nil_of_le ∅,List.take_nil]
def Own.putK {Hb H H':Hp} {O:List (L6×HO)} {x:L6} {o o':HO} (h:Own Hb H O) (hx:Hb x=⇑o) (s:aB (ers x H) H') (e:H' x=⇑o'):Own (upd Hb x o') H' O:=by
 have k:∀p∈O,p.1≠x:=λp hp z=>by have:=h.no p hp; rw[z,hx] at this; cases this
 show#[λb u q=>?_,λp hp=>s _ _ (by rw[ak (k p hp)]; exact h.at_ p hp),λp hp=>by rw[aM (k p hp)]; exact h.no p hp,h.nd];by_cases z:b=x
 . subst z;rw[aI] at q;rw[e,q]
 . rw[aM z] at q;exact s _ _ (by rw[ak z]; exact h.b _ _ q)
def Dp:∀{ws:List Str} {j:Nat} {n:Str},ws.Nodup->ws[j]?=⇑n->ws.idxOf n=j:=λ{ws j n} nd h=>by
 have hj:=(HV.mp h).1;have hm:=IA h;have hl:=J3 hm;have e:ws[ws.idxOf n]?=⇑n:=by rw[HU hl,List.getElem_idxOf]
 rw[<- h] at e;exact(K1 hl nd).mp e
abbrev hV (H:Hp):List (L6×HO)->Prop
 | []=>True
 | x::L=>H x.1=⇑x.2/\hV H L
abbrev Al (H0 H:Hp) (L:List (L6×HO)):Prop:=aB H0 H/\hV H L
section
variable {H0 H H':Hp} {L:List (L6×HO)} {q:L6} {o:HO}
def hV.mono (s:aB H H'):∀{L:List (L6×HO)},hV H L->hV H' L
 | [],_=>trivial
 | _::_,h=>#[s _ _ h.1,hV.mono s h.2]
def Al.nil:Al H H []:=#[aB.refl _,trivial]
def Al.mono (h:Al H0 H L) (s:aB H H'):Al H0 H' L:=#[h.1\s,h.2*>s]
def Al.re (h:Al H0 H L):Al H H L:=#[aB.refl _,h.2]
def Al.add (h:Al H0 H L) (e:H q=⇑o):Al H0 H ((q,o)::L):=#[h.1,e,h.2]
def Al.new (h:Al H0 H L) (k:H q=none):Al H0 (upd H q o) ((q,o)::L):=(h*>(aB.new k)).add aI
end
def dm {cs:List Int} {n:Nat} (h:cs.length=n) (j:Nat) (hj:j<n):∃z,aq (cs.map V.int) (j:Int)=⇑(.int z) :=
 #[cs[j]'∅,bv (by rw[Hk,HU ∅]; rfl)]
def md (c n:Int) (h:0<n):∃r:Nat,c%n=(r:Int)/\(r:Int)<n:=#[(c%n).toNat,by have:=JT c (Int.ne_of_gt h); lia,by have:=JT c (Int.ne_of_gt h); have:=JN c h; lia]
def rh {α:Type} {R:α->V->Prop} {P:α->Prop}:∀{vs:List V},(∀(i:Nat) v,vs[i]?=⇑v->∃t,R t v/\P t)->∃ts,Ps R vs ts/\(∀t∈ts,P t)/\ts.length=vs.length
 | [],_=>#[[],trivial,λt h=>(by cases h),rfl]
 | v::vs,h=>by let#[t,r,p]:=h 0 v rfl;let#[ts,a,b,c]:=rh (R:=R) (P:=P) (vs:=vs) λi w hw=>h (i+1) w ↑hw;show#[t::ts,#[r,a],λu hu=>(Hh.mp hu).elim (λz=>z ▸ p) (b u),by rw[II,II,c]]
end Cw
namespace L2
open PySem PySem.Spec PyProof.Rows
section
variable {X:Cx} {c:Expr} {a b:Stmt} {tc:TT} {ta tb:c6->XK->St->Hp->Prop} {pos:Pos}
abbrev xIf (tc:TT) (ta tb:c6->XK->St->Hp->Prop):c6->XK->St->Hp->Prop:=λD E σ H=>tc σ H λd H1=>if d=true then ta D E σ H1 else tb D E σ H1
def qw (hc:PT X.nox c tc) (ha:kP X a ta) (hb:kP X b tb):kP X (.If c [a] [b] pos) (xIf tc ta tb):=by
 intro pins s σ H D E I h;refine wpAny_If (Il (hc pins s σ H _ (I.wish _) h) (λd s1 q=>?_) λ_ _ z=>z.elim);let#[H1,I1,q1]:=q;have I1:=I1.unwish;cases d with
 | true =>
   refine Jb (Il (ha pins s1 σ H1 D E I1 q1) (λf s2 q=>?_) λev s2 q=>?_)
   . cases f with
     | next=>exact JO q
     | ret v=>exact q
     | brk=>exact q
     | cont=>exact q
   . exact q
 | false =>
   refine Jb (Il (hb pins s1 σ H1 D E I1 q1) (λf s2 q=>?_) λev s2 q=>?_)
   . cases f with
     | next=>exact JO q
     | ret v=>exact q
     | brk=>exact q
     | cont=>exact q
   . exact q
end
section
variable {X:Cx}
def uQ (ns:List Int):∀j,j<=ns.length->preSum (λi=>ns.getD i 0) j=(ns.take j).sum
 | 0,_=>by simp [preSum]
 | j+1,h=>by
   have e:ns.take (j+1)=ns.take j++[ns[j]'∅]:=by rw[IM,HU (by lia:j<ns.length)]; rfl
   rw[preSum,uQ ns j ∅,e,List.sum_append];simp [List.getD,(show j<ns.length by lia)]
abbrev E2 (K:L7):List V->Hp->VK->Prop:=λxs H Q=>∃(p:L6) (ns:List Int),xs=[↥p]/\aE K H p (ns.map V.int)/\Q (.int ns.sum) H
def Bm (hc:X.calm=true):aw X (.builtin "sum") (E2 X.K):=by
 intro pins s σ H xs us Q I r h;let#[p,ns,rfl,hp,q]:=h;let#[u,rfl,ru]:=gK r;cases (show u=Value.ref p from ru);let#[its,rv,pl,hz]:=I.list hp;have hlen:=rv.length;rw[HS] at hlen;have hne:p≠s.heap.objs.size:=IG pl.lt;refine call_sum_walkG (J0 pl.isList ?_);have W:=Walks.list (prog:=X.prog) (w:=X.w) (A:=X.A.in1) (I.ok.hd hc) s.heap.objs.size p hne its.toArray;show#[s.heap.objs.size,32,λi=>ns.getD i 0,rfl,W,#[#[_,Hs _ rfl,7],pl.isList.push _],?_,?_,λh' tk t' hk=>?_]
 . intro b hb;have hb':b=p\/b=s.heap.objs.size:=by simpa [or_comm] using hb
   rcases hb' with rfl|rfl
   . exact IB pl.lt (by simp [Heap.push])
   . simp [Heap.push]
 . intro i v hv;have hv':its[i]?=⇑v:=↑hv
   have hi:i<ns.length:=by rw[hlen]; exact(HV.mp hv').1
   have hb:(ns.map V.int)[i]?=⇑(.int ns[i]):=by simp [hi]
   let#[u',e1,t,r1]:=rv.get hb;rw[hv'] at e1;cases e1;show#[t,by rw[r1]; simp [List.getD,hi]]
 . have e:preSum (λi=>ns.getD i 0) its.toArray.size=ns.sum:=by rw[Hn,<- hlen,uQ ns _ (HY _),IP]
   rw[e];show#[.int ns.sum,H,I.kept λb o q=>hk b o (λz=>by
     have z':b=s.heap.objs.size:=↑z
     rw[z'] at q;exact absurd (Hm q) (Ia _)) (HW _ q),#[t',rfl],q]
end
section
variable {X:Cx} {C f:L6} {m:Str} {o:Expr} {ta:TE} {k:Nat} {fd:FuncData} {ps:List Str} {sp:Sp} {apos pos:Pos}
def EM {pl:Sem Bool} (he:PE X o ta) (c:Cls X.K C) (hm:Meth X.K C m f) (F:FnOkH X.prog X.w X.K X.mg X.base k f fd ps sp) (hr:RoomH k X.A) (hb:dC X.K fd ps [])
   (ht:eval (.Call (.Attribute o m apos) [] [] pos) X.env=(do
     let ov <- eval o X.env
     standAt apos.atName
     let (f,first) <- holding [ov] (getMethod ov m pl)
     callWith pos f first (backTo pos (starEach [] X.env)) (backToKw pos (keywordEach [] X.env))):=by rfl) :
   PE X (.Call (.Attribute o m apos) [] [] pos) (kj C m sp [] E0 ta mG):=by
 intro pins s σ H Q I h;refine PySem.W.methodCall_KW (pl:=pl) (aQ (he pins s σ H _ I h) λu s1 z215_=>?_) ht;let#[x,H1,I1,rx,a,dx,fs,ex,ea,l,q]:=z215_;subst ex;obtain rfl:u=Value.ref a:=rx;refine ky I1 ea c hm l ?_;refine PySem.W.callWith_K0 (first:=[↥a]) I1.kIn hm.kp ?_;have q:sp [↥a] H1 Q E0:=q;have hl:[Value.ref a].length=ps.length:=F.len _ _ _ _ q;have hb:BindsTo s1 fd ⟨[↥a],[]⟩ (ps.zip [↥a]):=by have:=hb s1 [↥a] I1.kIn (by rw[IQ]; exact hl);rwa [IQ] at this
 refine Jp (Jk (F.run X.A X.stack s1 H1 #[[↥a],[]] [↥a] [↥a] Q _ hr I1.env0 hb (.cons rfl .nil) q) λrr s' hq=>?_);cases rr with
 | error ev=>exact False.elim hq
 | ok fl =>
   cases fl with
   | ret u=>exact I1.after hq
   | next=>exact False.elim hq
   | brk=>exact False.elim hq
   | cont=>exact False.elim hq
end
end L2
namespace L2
open PySem
abbrev DB:TS:=λ_ _ _=>False
def HD {X:Cx} {L:List Stmt}:aO X L DB:=λ_ _ _ _ _ _ h=>h.elim
end L2
namespace Cw
open PySem PySem.W PyProof.Rows L2 Gx Fl Wk Rk2
section
variable {cW cF:L6} {Hb H H2:Hp} {w:Wr} {wt:L6} {fs:List Fm} {oc:V} {sent:List V} {cn:Cn} {wl:List V}
def bF.boxesAt {A B:List Fm} {f:Fm} {ks:List (aF×V)} (h:bF cW cF Hb H w wt (A++f::B) oc sent cn wl) (s:aB (ers f.bx H) H2) (e2:H2 f.bx=⇑(.dK ks)):bF cW cF Hb H2 w wt (A++{ f with kvs:=ks }::B) oc sent cn wl:=by
 have e:∀g:Fm,g.a=f.a->objs cW cF w wt (A++g::B) oc sent cn wl=((w.a,.ins cW w.dx (wG w oc cn.rc wt))::(w.st,.lst ((A.map λf:Fm=>V.ref f.a)++V.ref f.a::(B.map λf:Fm=>V.ref f.a)))::(w.sd,.lst sent)::(w.ct,.dT cn.kv)::(wt,.lst wl)::(A.flatMap (fO cF)++[(g.a,.ins cF g.dx (fF g))]))++(g.bx,.dK g.kvs)::B.flatMap (fO cF):=λg hg=>by unfold objs;rw[IZ,Hq,<- hg];simp [fO,K3]
 unfold bF at h ⊢;rw[e f rfl] at h;rw[e { f with kvs:=ks } rfl];exact Own.setK h s e2
end
def wZ {n:Str} {ss:List Str} (h:n ∉ ss):eS (.str n) (ss.map V.str)=false:=(K12.inV_map n ss)\(IU h)
def jW {α:Type} {l:List α} {i:Nat} {x d:α} (h:l[i]?=⇑x):l.getD i d=x:=by rw[Ii,h]; rfl
def Gu (n:Nat):K13.Wf (List.replicate n ("copy":Str)++[("out":Str),"back"]):=by have g:=((K41.good_rep K13.good_nil (x:="copy") 0x7 0x7 0x7 n).plain (x:="out") 0x7 0x7 0x7).back;rw[Ku,Ib] at g;exact g
variable {K:L7} {H:Hp}
def GN {nk lst:Str} {fa tr qC c b:L6} {fo:V} {ps:List Str} (la:List (L6×Str)) (h1:aG K H fa [.str nk,fo,↥qC,↥tr]) (h2:aG K H tr (la.map (λx=>V.ref x.1)++[↥c,↥b])) (h4:aG K H qC (ps.map V.str))
   (ha:∀x∈la,aG K H x.1 [.str "copy",.str x.2,.int 0]) (hc:aG K H c [.str "out",.str lst]) (hb:aG K H b [.str "back",.int 0]) (nd:(ps++la.map (·.2)).Nodup) (hl:lst∈ps++la.map (·.2)) (nm:∀w∈ps++la.map (·.2),K12.Nm w) (h6:(ps++la.map (·.2)).length<=50) :
   ∃F:F2.Fd,F2.FnAt K H F/\F.fa=fa/\F.name=nk/\F2.nms F=ps++la.map (·.2)/\F.ps.length=ps.length/\F.ps.length+F.rs.length=(ps++la.map (·.2)).length+2:=by
 rw[HZ,HS] at h6;have el:(cps la).length=la.length:=HS _;have F:=Bg.fn_mk2 (K:=K) (H:=H) (cps la++[K41.rone "out" c (.str lst),K41.rone "back" b (.int 0)]) h1 (by
   rw[Hq,show(cps la).map (λx=>V.ref x.w.r)=la.map λx=>V.ref x.1 by unfold cps; rw[Iq]; rfl];exact h2) (λx hx=>by
   rcases IH.mp hx with hx|hx
   . let#[y,hy,rfl]:=IJ.mp hx;exact Bg.ok_copyV (ha y hy) (nm _ (Hz _ (IJ.mpr #[y,hy,rfl])))
   . simp only[Hh,ID,or_false] at hx;rcases hx with rfl|rfl
     . exact K41.ok_out hc (K41.at_s (nm _ hl))
     . exact K41.ok_back hb (K41.at_i 0)) h4 (λs hs=>nm s (Ik _ hs)) ∅ (by rw[HZ,el]; show la.length+2<=100; lia) (by
   have e:(cps la).map (λx=>x.w.k)=List.replicate la.length ("copy":Str):=by unfold cps;rw[Iq];exact List.eq_replicate_iff.mpr #[HS _,λs hs=>by let#[y,_,rfl]:=IJ.mp hs; rfl]
   rw[Hq,e];exact Gu _)
 show#[_,F,7,?_,rfl,?_]
 . show K12.onceL (K12.allOf ps ((cps la++[K41.rone "out" c (.str lst),K41.rone "back" b (.int 0)]).map (·.d)))=_;unfold K12.onceL K12.allOf;rw[Hq,IZ,tj,<- Ib,IX,w6 (acc:=[]) ↑nd,Ku];refine vt λs hs=>?_;have e:s=lst:=IC.mp hs;rw[e];exact hl
 . show ps.length+((cps la++[K41.rone "out" c (.str lst),K41.rone "back" b (.int 0)]).map (·.w)).length=_;rw[HS,HZ,el,HZ,HS];show ps.length+(la.length+2)=_
   lia
variable {xs:List V}
def eK {il b:L6} {its:List V}(hi:H il=⇑(.lst xs)) (h:aG K H b its):aG K (ers il H) b its:=by
 rcases h with(h|⟨o,h⟩)|h
 . exact .inl (.inl (by rw[ak (λz=>by rw[z,hi] at h; cases h)]; exact h))
 . exact .inl (.inr #[o,by rw[ak (λz=>by rw[z,hi] at h; cases h)]; exact h])
 . exact .inr h
def iu {a b:L6} :ers a (ers b H)=ers b (ers a H):=by funext x;unfold L2.ers;split <;> split <;> rfl
section
variable {K:L7} {H0 H H':Hp} {l:L6} {xs:List V}
def bp.er {o:Hl Tr} {v:V} (hl:H l=⇑(.lst xs)) (h:bp H o v):bp (ers l H) o v:=by
 cases o with
 | none=>exact h
 | some t=>exact pI (t:=t) hl h
def dI.er {p:Str×Nat} {u:V} (hl:H l=⇑(.lst xs)) (h:dI K H p u):dI K (ers l H) p u:=by let#[q,h1,h2]:=h;show#[q,h1,eK hl h2]
def gA.er {c:L6} {ch:List (Str×Nat)} (hl:H l=⇑(.lst xs)) (h:gA K H c ch):gA K (ers l H) c ch:=by let#[us,h1,h2]:=h;show#[us,eK hl h1,Ps.imp (λ_ _ z=>z.er hl) h2]
def bp.er2 {k:L6} {ys:List V} {o:Hl Tr} {v:V} (hk:H k=⇑(.lst ys)) (hl:H l=⇑(.lst xs)) (n:k≠l) (h:bp H o v):bp (ers k (ers l H)) o v:=bp.er (xs:=ys) (by rw[ak n]; exact hk) (bp.er hl h)
abbrev gi (H0 H:Hp) (pl:List (Hl Tr)) (u:V):Prop:=∃q us,u=↥q/\H0 q=none/\H q=⇑(.lst us)/\Ps (bp H) us pl
abbrev qZ (K:L7) (H0 H:Hp) (m:Mk) (u:V):Prop:=∃q c l us,u=↥q/\aG K H q [↥c,↥l]/\gA K H c m.ch/\H0 l=none/\H l=⇑(.lst us)/\Ps (gi H0 H) us m.vs
def gi.mono {pl:List (Hl Tr)} {u:V} (e:aB H H') (h:gi H0 H pl u):gi H0 H' pl u:=by let#[q,us,h1,h2,h3,h4]:=h;show#[q,us,h1,h2,e _ _ h3,Ps.imp (λ_ _ z=>bp.mono e z) h4]
def gi.er {pl:List (Hl Tr)} {u:V} (h:gi H0 H pl u) (hl:H l=⇑(.lst xs)) (h0:H0 l≠none):lB K (ers l H) pl u:=by let#[q,us,h1,h2,h3,h4]:=h;show#[q,us,h1,aE.of (by rw[ak (b:=q) (l:=l) λz=>h0 (by rw[<- z]; exact h2)]; exact h3),Ps.imp (λ_ _ z=>bp.er hl z) h4]
def qZ.er {m:Mk} {u:V} (h:qZ K H0 H m u) (hl:H l=⇑(.lst xs)) (h0:H0 l≠none):dD K (ers l H) m u:=by let#[q,c,l2,us,h1,h2,h3,h4,h5,h6]:=h;show#[q,c,l2,us,h1,eK hl h2,h3.er hl,aE.of (by rw[ak (b:=l2) (l:=l) λz=>h0 (by rw[<- z]; exact h4)]; exact h5),Ps.imp (λ_ _ z=>z.er hl h0) h6]
end
structure FnOk (F:F2.Fd):Prop where
 nd:(F2.nms F).Nodup
 n1:(F2.nms F).length<=20
 so:PyData.strOk F.name=true
 ns:∀w∈F2.nms F,PyData.strOk w=true
 ln:F.ps.length+F.rs.length=(F2.nms F).length+2
 r1:0<F.rs.length
structure MkP (fns:List F2.Fd) (ch:List (Str×Nat)) (vs:List (List (Option Tr))):Prop where
 len:vs.length=ch.length
 at_:∀(k:Nat) p pl,ch[k]?=⇑p->vs[k]?=⇑pl->∃F,F∈fns/\p.1=F.name/\pl.length=(F2.nms F).length/\∀u,⇑u∈pl->da u
structure MkOk (fns:List F2.Fd) (m:Mk):Prop where
 p:MkP fns m.ch m.vs
 l1:1<=m.ch.length
 l3:m.ch.length<=3
def MkP.snoc {fns:List F2.Fd} {ch:List (Str×Nat)} {vs:List (List (Hl Tr))} {F:F2.Fd} {r:Nat} {pl:List (Hl Tr)} (h:MkP fns ch vs) (hF:F∈fns) (hl:pl.length=(F2.nms F).length) (ok:∀u,⇑u∈pl->da u):MkP fns (ch++[(F.name,r)]) (vs++[pl]):=by
 show#[by rw[HZ,HZ,h.len]; rfl,λk p q e1 e2=>?_];by_cases hk:k<ch.length
 . rw[IV hk] at e1;rw[IV (by rw[h.len]; exact hk)] at e2;exact h.at_ k p q e1 e2
 . rw[IS ∅] at e1;rw[IS (by rw[h.len]; lia),h.len] at e2;have hz:k - ch.length=0:=by
     have:=(HV.mp e1).1;simp at this
     lia
   rw[hz] at e1 e2;cases e1;cases e2;show#[F,hF,rfl,hl,ok]
def tN (n:Nat):cb (n+1) (-1)=⇑n:=by
 unfold cb;simp
 lia
def uL {t:Tr} (h:Bg.TOk' 7 t):da t:=#[by have:=h.2.2.1; lia,h.1]
def p9 {α β:Type} (f:α->List β):∀(L:List α) (n:Nat) (p:β),(L.flatMap f)[n]?=⇑p->∃i x k,L[i]?=⇑x/\(f x)[k]?=⇑p/\n=((L.take i).flatMap f).length+k
 | [],n,p,h=>by simp at h
 | a::L,n,p,h=>by
   rw[K3] at h;by_cases hn:n<(f a).length
   . rw[IV hn] at h;show#[(0),a,n,rfl,h,(KH _).symm]
   . rw[IS ∅] at h;let#[i,x,k,h1,h2,h3]:=p9 f L _ p h;show#[i+1,x,k,h1,h2,by rw[List.take_succ_cons,K3,HZ]; lia]
def u8 {P:Nat->List Str->Prop}:∀n:Nat,(∀k,k<n->∃s,P k s)->∃nm:List (List Str),nm.length=n/\∀k,k<n->∃s,nm[k]?=⇑s/\P k s
 | 0,_=>#[[],rfl,λk hk=>absurd hk (Ir _)]
 | n+1,h=>by
   let#[nm,l,a]:=u8 n λk hk=>h k ∅;let#[s,hs]:=h n (Iw _);show#[nm++[s],by rw[HZ,l]; rfl,λk hk=>?_];by_cases hk':k<n
   . let#[s,h1,h2]:=a k hk';show#[s,by rw[IV ∅]; exact h1,h2]
   . obtain rfl:k=n:=by lia
     show#[s,by rw[IS ∅,l,Nat.sub_self]; rfl,hs]
def sw {v:V} {vs:List V} {n:Nat} (l:vs.length=n) (h:∀(i:Nat) u,vs[i]?=⇑u->u=v):vs=List.replicate n v:=List.eq_replicate_iff.mpr #[l,λb hb=>by let#[i,hi]:=JU.mp hb;exact h i b hi]
def qJ {Hb H':Hp}{a:L6} (h:H a=none) (q:aG K H' a xs):aG K (gr Hb H H') a xs:=by
 have e:gr Hb H H' a=H' a:=by unfold gr; rw[h]
 rcases q with(q|⟨o,q⟩)|q
 . exact .inl (.inl (e\q))
 . exact .inl (.inr #[o,e\q])
 . exact .inr q
def ot {Hb H':Hp}{a:L6} (h:H a=none) (q:aE K H' a xs):aE K (gr Hb H H') a xs:=by
 have e:gr Hb H H' a=H' a:=by unfold gr; rw[h]
 rcases q with(q|⟨o,q⟩)|q
 . exact .inl (.inl (e\q))
 . exact .inl (.inr #[o,e\q])
 . exact .inr q
def nmk_ne {W:List Nat} {a:Nat} {n:Int} {k:Nat}:K41.nmk W a n k≠"":=λh=>by
 have e:=Hr Str.length h;unfold K41.nmk at e;have z:("":Str).length=0:=rfl;split at e
 . rw[dW,HZ,z] at e;simp at e
 . rw[dW,K41.bse_len,z] at e
   lia
def CW {l:L6} (hl:H l=⇑(.lst xs)) {ys as:List V} {gx:Hl Str} (h:K12.RowS K H ys gx as):K12.RowS K (ers l H) ys gx as:=by cases h <;> constructor;exact eK hl (by assumption)
def vC {l:L6} {F:F2.Fd} (hl:H l=⇑(.lst xs)) (h:F2.FnAt K H F):F2.FnAt K (ers l H) F:=by
 show#[eK hl h.fn,eK hl h.pr,eK hl h.rw_,λw hw=>?_,#[?_,λd hd=>?_,h.fu.pn,h.fu.pl,h.fu.dl],h.wf,h.len]
 . let#[r,a,b]:=h.rk w hw;show#[r,eK hl a,b]
 . let#[n,b,p,r,h1,h2,h3]:=h.fu.fn;show#[n,b,p,r,eK hl h1,eK hl h2,eK hl h3]
 . have D:=h.fu.rows d hd;let#[ys,h1,h2]:=D.row;show#[#[ys,eK hl h1,CW hl h2],D.ats,D.len,D.nm]
def Gk {ys:List Str} (h:∀y∈ys,y.length<=1):(PySem.Txt.join "" ys).length<=ys.length:=by
 have e:ys=(ys.map λy=>y.cps.toList).map tx:=by rw[Iq];exact(List.map_id' ys).symm.trans (KQ λy _=>nY y)
 rw[e,qj,dW,HS,HS];clear e
 induction ys with
 | nil=>exact HY _
 | cons y ys ih =>
   have h1:y.cps.toList.length<=1:=by have:=h y Hj;rw[nY y,dW] at this;exact this
   have h2:=ih λz hz=>h z (Hv _ hz);rw[IF,J2,HZ,II]
   lia
def nJ {P:Str->Prop}:∀{vs:List V},(∀(i:Nat) v,vs[i]?=⇑v->∃s,v=V.str s/\P s)->∃ys:List Str,vs=ys.map V.str/\∀y∈ys,P y
 | [],_=>#[[],rfl,λy h=>(by cases h)]
 | v::vs,h=>by let#[s,rfl,hs]:=h 0 v rfl;let#[ys,rfl,hy]:=nJ (vs:=vs) λi w hw=>h (i+1) w ↑hw;show#[s::ys,rfl,λy h=>(Hh.mp h).elim (λz=>z ▸ hs) (hy y)]
def DM {s:Str} (h:s≠""):(PySem.Txt.slice s none (some 1)).length<=1:=by
 have hl:1<=s.cps.toList.length:=by
   cases e:s.cps.toList with
   | nil=>exact absurd ((nY s)\(by rw[e]; rfl)) h
   | cons x l=>simp
 rw[nY s,show((1:Int))=((1:Nat):Int) from rfl,K41.tx_to hl,dW,IE]
 lia
def zp (a b:List (aF×V)):(eW a b).length<=a.length+b.length:=by
 induction b generalizing a with
 | nil=>exact HY _
 | cons x b ih =>
   have:=ih (putK a x.1 x.2);have h2:=putK_len a x.1 x.2;show(eW (putK a x.1 x.2) b).length<=_;rw[II]
   lia
def DF {Fa Fb Fc:F2.Fd} {w0 w1 w2 al:L6} (nd:([Fa.name,Fb.name,Fc.name]:List Str).Nodup) (ne:∀s∈[Fa.name,Fb.name,Fc.name],s≠"") (h0:H w0=⇑(.lst ((F2.nms Fa).map V.str))) (h1:H w1=⇑(.lst ((F2.nms Fb).map V.str))) (h2:H w2=⇑(.lst ((F2.nms Fc).map V.str))) :
   ∀F∈[Fa,Fb,Fc],∃nl,au (putK (eW [] [(Sum.inr Fa.name,V.ref w0),(Sum.inr Fb.name,↥w1),(Sum.inr Fc.name,↥w2)]) (Sum.inr "":aF) ↥al) (Sum.inr F.name:aF)=⇑↥nl/\aE K H nl ((F2.nms F).map V.str):=λF hF=>by
 simp only[JP,Hh,ID,or_false,not_or] at nd;obtain⟨⟨n1,n2⟩,n3,-⟩:=nd;have k:∀{a b:Str},a≠b->(Sum.inr a:aF)≠Sum.inr b:=λh z=>h (Sum.inr.inj z);simp only[Hh,ID,or_false] at hF ne;rcases hF with rfl|rfl|rfl
 . show#[w0,?_,aE.of h0];rw[cf,HX (k (ne _ (.inl rfl)))];show au (putK (putK (putK [] _ _) _ _) _ _) _=_;rw[cf,HX (k n2),cf,HX (k n1),cf,He rfl]
 . show#[w1,?_,aE.of h1];rw[cf,HX (k (ne _ (.inr (.inl rfl))))];show au (putK (putK (putK [] _ _) _ _) _ _) _=_;rw[cf,HX (k n3),cf,He rfl]
 . show#[w2,?_,aE.of h2];rw[cf,HX (k (ne _ (.inr (.inr rfl))))];show au (putK (putK (putK [] _ _) _ _) _ _) _=_;rw[cf,He rfl]
end Cw
namespace K38
open PySem L2 Gx Fl Cw
open Bg (TOk' BxL)
abbrev aj (i:Nat):Stmt:=PySem.Challenge.pw_stopglass_k38_told_by_places.main.body.getD i (.Pass #[(0),(0),(0),(0)])
noncomputable abbrev jX:Stmt:=aj 8
noncomputable abbrev nX:Stmt:=aj 9
noncomputable abbrev nB:Stmt:=aj 10
noncomputable abbrev nv:Stmt:=aj 11
noncomputable abbrev mU:Stmt:=aj 12
noncomputable abbrev iG:Stmt:=aj 13
noncomputable abbrev jx:Stmt:=aj 14
noncomputable abbrev iy:Stmt:=aj 15
noncomputable abbrev fB:Stmt:=cC (aj 16) 0
noncomputable abbrev my:Stmt:=aj 19
noncomputable abbrev nc:Stmt:=aj 22
noncomputable abbrev nu:Stmt:=aj 25
noncomputable abbrev kh:Stmt:=aj 26
noncomputable abbrev kI:Stmt:=aj 27
noncomputable abbrev i7:Stmt:=cC (aj 28) 0
noncomputable abbrev nj:Stmt:=cC (aj 28) 1
noncomputable abbrev oO:Stmt:=cC (aj 28) 3
noncomputable abbrev kO:Stmt:=cC (aj 28) 2
noncomputable abbrev mh:Stmt:=cC (aj 20) 1
noncomputable abbrev nA:Stmt:=cC (aj 20) 2
noncomputable abbrev oI:Stmt:=cC (aj 29) 6
noncomputable abbrev lj:Stmt:=cC (aj 29) 10
noncomputable abbrev oQ:Stmt:=cC (aj 29) 11
noncomputable abbrev oF:Stmt:=cC (aj 29) 4
noncomputable abbrev i6:Stmt:=cC (aj 29) 5
noncomputable abbrev mX:Stmt:=cC (aj 20) 14
noncomputable abbrev mq:Stmt:=cC (aj 20) 12
noncomputable abbrev me:Stmt:=cC (aj 20) 13
noncomputable abbrev iQ:Stmt:=cC (aj 29) 1
noncomputable abbrev oN:Stmt:=cC (aj 29) 7
noncomputable abbrev ny:Stmt:=cC (aj 20) 6
noncomputable abbrev gR:Stmt:=cC (aj 29) 2
noncomputable abbrev mN:Stmt:=cC (aj 29) 3
noncomputable abbrev jw:Stmt:=cC (aj 20) 5
noncomputable abbrev oE:Stmt:=cC (aj 29) 9
noncomputable abbrev kY:Stmt:=cC (aj 29) 14
noncomputable abbrev j4:Stmt:=cC (aj 29) 12
noncomputable abbrev gj:Stmt:=cC (aj 29) 8
noncomputable abbrev nh:Stmt:=cC (aj 20) 7
noncomputable abbrev gM:Stmt:=cC (aj 20) 0
noncomputable abbrev ge:Stmt:=cC (aj 29) 0
noncomputable abbrev mI:Stmt:=aj 31
noncomputable abbrev nH:Stmt:=aj 32
noncomputable abbrev nW:Stmt:=aj 33
noncomputable abbrev nq:Stmt:=aj 34
noncomputable abbrev fY:Stmt:=aj 35
noncomputable abbrev ng:Stmt:=aj 37
noncomputable abbrev iM:Stmt:=aj 36
noncomputable abbrev kz:Stmt:=aj 38
noncomputable abbrev jA:Stmt:=aj 39
noncomputable abbrev jo:Stmt:=aj 40
noncomputable abbrev jU:Stmt:=aj 41
noncomputable abbrev mZ:Stmt:=aj 42
noncomputable abbrev j6:Stmt:=aj 43
noncomputable abbrev kE:Stmt:=aj 44
noncomputable abbrev fG:Stmt:=aj 45
noncomputable abbrev gc:Stmt:=aj 46
noncomputable abbrev dj:Stmt:=aj 47
noncomputable abbrev cg:Stmt:=aj 48
set_option genInjectivity false in
set_option genSizeOf false in
structure Adr where
 x_gE:Addr
 x_nN:Addr
 cm:Addr
 bq:Addr
 yE:Addr
 bJ:Addr
 dg:Addr
 xy:Addr
 zC:FuncData
 xz:Addr
 zD:FuncData
 xW:Addr
 yn:FuncData
 xS:Addr
 yj:FuncData
 xU:Addr
 yl:FuncData
 yD:Addr
 zH:FuncData
 xT:Addr
 yk:FuncData
 xV:Addr
 ym:FuncData
 xJ:Addr
 yX:FuncData
 yC:Addr
 zG:FuncData
 lS:Addr
 lV:FuncData
 yA:Addr
 zE:FuncData
 yB:Addr
 zF:FuncData
 xx:Addr
 zB:FuncData
 wx:Addr
 yH:FuncData
 wy:Addr
 yI:FuncData
 ww:Addr
 yG:FuncData
 wu:Addr
 yF:FuncData
 xM:Addr
 yd:FuncData
 rP:Addr
 rR:FuncData
 xD:Addr
 yR:FuncData
 xG:Addr
 yU:FuncData
 xB:Addr
 yP:FuncData
 x4:Addr
 yK:FuncData
 xF:Addr
 yT:FuncData
 xP:Addr
 yg:FuncData
 xK:Addr
 yY:FuncData
 xL:Addr
 yZ:FuncData
 xE:Addr
 yS:FuncData
 xH:Addr
 yV:FuncData
 xR:Addr
 yi:FuncData
 xC:Addr
 yQ:FuncData
 x6:Addr
 yM:FuncData
 xN:Addr
 ye:FuncData
 x3:Addr
 yJ:FuncData
 x9:Addr
 yN:FuncData
 x5:Addr
 yL:FuncData
 xI:Addr
 yW:FuncData
 xQ:Addr
 yh:FuncData
 xO:Addr
 yf:FuncData
 xA:Addr
 yO:FuncData
 xX:Addr
 yo:FuncData
 xt:Addr
 zA:FuncData
 xq:Addr
 z8:FuncData
 xk:Addr
 yy:FuncData
 xj:Addr
 yx:FuncData
 lR:Addr
 lU:FuncData
 xm:Addr
 z6:FuncData
 lQ:Addr
 lT:FuncData
 xZ:Addr
 yq:FuncData
 xf:Addr
 yr:FuncData
 xg:Addr
 yt:FuncData
 xl:Addr
 yz:FuncData
 xh:Addr
 yu:FuncData
 xi:Addr
 yw:FuncData
 xp:Addr
 z7:FuncData
 xY:Addr
 yp:FuncData
 xr:Addr
 z9:FuncData
 xu:Addr
 oR:FuncData
 rM:Addr
 rO:Addr
 rN:Addr
structure Txt (K:W.Frag) (mg:Str->Option Value) (t:Adr):Prop where
 x_gE:XClsOk K mg "GlassError" t.x_gE
 x_nN:XClsOk K mg "NoName" t.x_nN
 cm:XClsOk K mg "Ended" t.cm
 i0_nN:W.findIn K ↥t.x_nN "__init__"=⇑⇑(.builtin "ValueError.__init__")
 e_nN:W.mroIn K t.x_nN ↥t.x_gE=⇑true
 k_NoName_nN:W.kitOne K ↥t.x_nN ↥t.x_nN=⇑true
 k_NoName_Ended:W.kitOne K ↥t.x_nN ↥t.cm=⇑false
 v_nN:W.kitOne K ↥t.x_nN (.type "ValueError")=⇑true
 i0_Ended:W.findIn K ↥t.cm "__init__"=⇑⇑(.builtin "ValueError.__init__")
 e_Ended:W.mroIn K t.cm ↥t.x_gE=⇑true
 k_Ended_nN:W.kitOne K ↥t.cm ↥t.x_nN=⇑false
 k_Ended_Ended:W.kitOne K ↥t.cm ↥t.cm=⇑true
 v_Ended:W.kitOne K ↥t.cm (.type "ValueError")=⇑true
 names_of:DefOk K mg "names_of" jX ["function"] t.xy t.zC
 reads:DefOk K mg "reads" nX ["row"] t.xz t.zD
 gives:DefOk K mg "gives" nB ["row"] t.xW t.yn
 atoms_of:DefOk K mg "atoms_of" nv ["row"] t.xS t.yj
 each_once:DefOk K mg "each_once" mU ["names"] t.xU t.yl
 ways:DefOk K mg "ways" iG ["rows"] t.yD t.zH
 begins_of:DefOk K mg "begins_of" jx ["rows"] t.xT t.yk
 firsts_behind:DefOk K mg "firsts_behind" iy ["rows","begins"] t.xV t.ym
 wr:IniOk K t.bq "Flows.__init__" fB ["self","program"] t.xJ t.yX
 value:DefOk K mg "value" my ["sign","one","other"] t.yC t.zG
 worth:DefOk K mg "worth" nc ["one","boxes"] t.lS t.lV
 reckonings_of:DefOk K mg "reckonings_of" nu ["act"] t.yA t.zE
 spots_by_name:DefOk K mg "spots_by_name" kh ["code"] t.yB t.zF
 marks_by_name:DefOk K mg "marks_by_name" kI ["table"] t.xx t.zB
 wo:IniOk K t.dg "CodeFrame.__init__" i7 ["self","function","args","first"] t.wx t.yH
 lI:MetOk K t.dg "worths_of" "CodeFrame.worths_of" nj ["self","reckonings"] t.wy t.yI
 iS:MetOk K t.dg "give" "CodeFrame.give" oO ["self","box","number"] t.ww t.yG
 lH:MetOk K t.dg "do_sets" "CodeFrame.do_sets" kO ["self","sets"] t.wu t.yF
 ib:MetOk K t.bJ "ended" "Walker.ended" mh ["self"] t.xM t.yd
 rJ:MetOk K t.bJ "answer" "Walker.answer" nA ["self"] t.rP t.rR
 fS:MetOk K t.bJ "owner_of" "CodeWalker.owner_of" oI ["self","level"] t.xD t.yR
 lN:MetOk K t.bJ "spot_of" "CodeWalker.spot_of" lj ["self","frame"] t.xG t.yU
 iV:MetOk K t.bJ "mark_of" "CodeWalker.mark_of" oQ ["self","frame"] t.xB t.yP
 iU:MetOk K t.bJ "chain_of" "CodeWalker.chain_of" oF ["self","frame"] t.x4 t.yK
 lL:MetOk K t.bJ "shown_at" "CodeWalker.shown_at" i6 ["self","level"] t.xF t.yT
 ic:MetOk K t.bJ "names_at" "Walker.names_at" mX ["self","level"] t.xP t.yg
 ia:MetOk K t.bJ "ask_for_level" "Walker.ask_for_level" mq ["self","level"] t.xK t.yY
 lO:MetOk K t.bJ "ask_for_name" "Walker.ask_for_name" me ["self","level","name"] t.xL t.yZ
 iZ:MetOk K t.bJ "place" "CodeWalker.place" iQ ["self","level","name"] t.xE t.yS
 rG:MetOk K t.bJ "tell" "CodeWalker.tell" oN ["self","level","name"] t.xH t.yV
 lP:MetOk K t.bJ "told" "Walker.told" ny ["self","level","name"] t.xR t.yi
 iW:MetOk K t.bJ "mates" "CodeWalker.mates" gR ["self","level"] t.xC t.yQ
 lK:MetOk K t.bJ "fill_box" "CodeWalker.fill_box" mN ["self","level","box","number"] t.x6 t.yM
 rK:MetOk K t.bJ "frames" "Walker.frames" jw ["self"] t.xN t.ye
 lJ:MetOk K t.bJ "begin" "CodeWalker.begin" oE ["self","function","args"] t.x3 t.yJ
 rF:MetOk K t.bJ "go_back" "CodeWalker.go_back" kY ["self","number"] t.x9 t.yN
 rE:MetOk K t.bJ "do_act" "CodeWalker.do_act" j4 ["self","frame","act","worths"] t.x5 t.yL
 rH:MetOk K t.bJ "walk_on" "CodeWalker.walk_on" gj ["self"] t.xI t.yW
 gX:MetOk K t.bJ "step" "Walker.step" nh ["self"] t.xQ t.yh
 rL:BasOk K t.yE "__init__" "Walker.__init__" gM ["self","program"] t.xO t.yf
 wq:IniOk K t.bJ "CodeWalker.__init__" ge ["self","program","code","table","args"] t.xA t.yO
 zJ:DefOk K mg "_law_cell_at" mI ["_law_script","_law_k"] t.xX t.yo
 lY:DefOk K mg "_law_whole" nH ["_law_found"] t.xt t.zA
 zP:DefOk K mg "_law_value" nW ["_law_sign","_law_one","_law_other"] t.xq t.z8
 lX:DefOk K mg "_law_number" nq ["_law_cell"] t.xk t.yy
 rV:DefOk K mg "_law_names" fY ["_law_cell","_law_many"] t.xj t.yx
 jZ:DefOk K mg "_law_worth" ng ["_law_one","_law_boxes"] t.lR t.lU
 rX:DefOk K mg "_law_some" iM ["_law_cell","_law_boxes"] t.xm t.z6
 jY:DefOk K mg "_law_alike" kz ["_law_found","_law_due"] t.lQ t.lT
 zK:DefOk K mg "_law_frames" jA ["_law_found","_law_due"] t.xZ t.yq
 zL:DefOk K mg "_law_function" jo ["_law_own","_law_names_here","_law_many"] t.xf t.yr
 zM:DefOk K mg "_law_mark" jU ["_law_cell","_law_program","_law_first","_law_boxes"] t.xg t.yt
 rW:DefOk K mg "_law_refused" mZ ["_law_walker","_law_way","_law_level","_law_name"] t.xl t.yz
 rT:DefOk K mg "_law_mates" j6 ["_law_found","_law_due"] t.xh t.yu
 zN:DefOk K mg "_law_name_told" kE ["_law_walker","_law_level","_law_name","_law_place","_law_boxes"] t.xi t.yw
 ie:DefOk K mg "_law_stands" fG ["_law_walker","_law_own","_law_names_here","_law_high"] t.xp t.z7
 rS:DefOk K mg "_law_filled" gc ["_law_walker","_law_own","_law_cell","_law_box","_law_number_here"] t.xY t.yp
 zQ:DefOk K mg "_law_walked" dj ["_law_walker","_law_names_here","_law_marks","_law_now","_law_more"] t.xr t.z9
 law:DefOk K mg "law" cg ["_law_script"] t.xu t.oR
 dR:ClsOk K mg "Flows" t.bq
 HM:ClsOk K mg "Walker" t.yE
 aZ:ClsOk K mg "CodeWalker" t.bJ
 cE:ClsOk K mg "CodeFrame" t.dg
 jd:cH K t.bq "last"
 je:cH K t.bq "number_of"
 jc:cH K t.bq "folded_of"
 jf:cH K t.bq "params_of"
 jg:cH K t.bq "rows_of"
 ik:cH K t.bq "names_in"
 jh:cH K t.bq "ways_in"
 ii:cH K t.bJ "flows"
 eI:cH K t.bJ "stack"
 ij:cH K t.bJ "outcome"
 lg:cH K t.bJ "sendings"
 lZ:cH K t.bJ "contents"
 le:cH K t.bJ "records"
 jb:cH K t.bJ "spots_of"
 ja:cH K t.bJ "marks_of"
 fT:cH K t.bJ "waiting"
 ig:cH K t.dg "function"
 gY:cH K t.dg "spot"
 gy:cH K t.dg "boxes"
 eX:cH K t.dg "first"
 rQ:∃tk,mg "WIDE"=⇑(.int 281474976710656 tk)
 HK:mg "GIVING_KINDS"=⇑↥t.rM
 HN:∀H:Hp,aG K H t.rM (K12.giving.map V.str)
 HJ:mg "ATOM_PLACES"=⇑↥t.rO
 HQ:n9 K t.rO K12.tabl
 HL:mg "RECKONING_PLACES"=⇑↥t.rN
 HP:n9 K t.rN rtab
 b_ValueError:mg "ValueError"=none
 b_sum:mg "sum"=none
 b_len:mg "len"=none
 b_list:mg "list"=none
 b_tuple:mg "tuple"=none
 b_isinstance:mg "isinstance"=none
 b_range:mg "range"=none
 b_enumerate:mg "enumerate"=none
 b_dict:mg "dict"=none
 b_str:mg "str"=none
 b_int:mg "int"=none
 b_zip:mg "zip"=none
 b_bool:mg "bool"=none
 bl:∀(s:Shared) (u:Value),BindsTo s t.oR #[[u],[]] [("_law_script",u)]
def lx {X:Cx} {L:List Stmt} {R:TS->Prop} (f:let XX:=X; ∃t,aO XX L t/\R t):∃t,aO X L t/\R t:=f
variable {fns:List F2.Fd} {wl:List V}
section
variable {P:Program} {w:World} {K:L7} {mg:Str->Hl K'} {base:Heap} {t:Adr}
noncomputable abbrev CA (t:Adr) (Hb H:Hp) (w:Wr) (wt:L6) (fs:List Fm) (oc:V) (sent:List V) (cn:Wk.Cn) (wl:List V):Prop:=bF t.bJ t.dg Hb H w wt fs oc sent cn wl
structure FrAt (t:Adr) (H:Hp) (f:Fm):Prop where
 o:H f.a=⇑(.ins t.dg f.dx (fF f))
 n:H f.bx=⇑(.dK f.kvs)
structure Dt (K:W.Frag) (t:Adr) (Hb:Hp) (w:Wr) (fns:List F2.Fd) (cs:List (Str×List Spt)) (ms:List 0xA):Prop where
 fl:F2.FlowsAt K t.bq Hb w.fl fns
 sp:kQ K Hb w.sp cs
 mp:kS K Hb w.mp ms
def Dt.mono {Hb Hb':Hp} {w:Wr} {fns:List F2.Fd} {cs:List (Str×List Spt)} {ms:List 0xA} (h:Dt K t Hb w fns cs ms) (e:aB Hb Hb'):Dt K t Hb' w fns cs ms:=#[h.fl*>e,h.sp*>e,h.mp*>e]
abbrev Ft (K:L7) (t:Adr):L2.Sp:=λvs H Q _=>∃(x dx p:L6) (fns:List F2.Fd),vs=[↥x,↥p]/\H x=⇑(.ins t.bq dx [])/\aE K (ers x H) p (fns.map λf=>V.ref f.fa)/\fns≠[]/\fns.length<=12/\(∀f∈fns,F2.FnAt K (ers x H) f)/\(fns.map (·.name)).Nodup /\
 ∀H',aB (ers x H) H'->F2.FlowsAt K t.bq H' x fns->Q .non H'
abbrev BR (K:L7):L2.Sp:=λvs H Q _=>∃(s:Str) (a b:Int),vs=[.str s,.int a,.int b]/\0<=a/\0<=b/\a<K21.wide/\b<K21.wide/\Q (.int (K21.valOf s a b)) H
abbrev nC (K:L7) (n:Nat):L2.Sp:=λvs H Q _=>∃(tr:Rk2.Tr) (v:V) (d:L6) (kvs:List (aF×V)),vs=[v,↥d]/\Rk2.dp tr<n/\Rk2.RAt H tr v/\H d=⇑(.dK kvs)/\Rk2.DV kvs/\Rk2.okl (Rk2.lvs tr)/\Q (.int (Rk2.wv (Rk2.fOf kvs) tr)) H
abbrev GF (K:L7):L2.Sp:=λvs H Q _=>∃(a:Ac) (v:V),vs=[v]/\iB K H a v/\(fg a).length<=100/\∀l us H',aB H H'->H l=none->H' l=⇑(.lst us)->Rk2.Ps (Rk2.RAt H') us (fg a)->Q ↥l H'
abbrev CY (K:L7):L2.Sp:=λvs H Q _=>∃(v:V) (cs:List (Str×List Spt)) (Hb:Hp),vs=[v]/\aB Hb H/\jB K Hb v cs/\(cs.map (·.1)).Nodup/\cs.length<=100/\(∀c∈cs,c.2.length<=1000/\∀s∈c.2,s.sets.length<=1000)/\∀d H',aB H H'->kQ K (Wk.gr Hb H H') d cs->Q ↥d H'
abbrev Gw (K:L7):L2.Sp:=λvs H Q _=>∃(v:V) (ms:List 0xA) (Hb:Hp),vs=[v]/\aB Hb H/\i' K Hb v ms/\(ms.map (·.1)).Nodup/\ms.length<=100/\(∀c∈ms,c.2.length<=1000/\∀m∈c.2,m.vs.length<=1000/\∀p∈m.vs,p.length<=1000)/\∀d H',aB H H'->kS K (Wk.gr Hb H H') d ms->Q ↥d H'
abbrev F0 (K:L7) (t:Adr):L2.Sp:=λvs H Q _=>∃(x dx ar:L6) (g:Str) (ys:List V) (n:Nat),vs=[↥x,.str g,↥ar,.int n]/\H x=⇑(.ins t.dg dx [])/\aE K (ers x H) ar ys/\ys.length<=1000 /\
 ∀bx H',H bx=none->aB (ers x H) H'->FrAt t H' #[x,dx,bx,g,(0),bf ys,n]->Q .non H'
abbrev Eh (K:L7) (t:Adr):L2.Sp:=λvs H Q _=>∃(f:Fm) (l:L6) (us:List V) (ts:List Rk2.Tr),vs=[↥f.a,↥l]/\FrAt t H f/\aE K H l us/\Rk2.Ps (Rk2.RAt H) us ts/\(∀u∈ts,da u)/\Rk2.DV f.kvs/\ts.length<=1000 /\
 ∀l' H',aB H H'->H l'=none->H' l'=⇑(.lst ((ts.map (Rk2.wv (Rk2.fOf f.kvs))).map V.int))->Q ↥l' H'
abbrev GE (K:L7) (t:Adr):L2.Sp:=λvs H Q _=>∃(f:Fm) (b:Hl Int) (z:Int),vs=[↥f.a,ki b,.int z]/\FrAt t H f/\f.kvs.length<100000 /\
 ∀H',aB (ers f.bx H) H'->H' f.bx=⇑(.dK (iR f.kvs b z))->Q .non H'
abbrev Dv (K:L7) (t:Adr):L2.Sp:=λvs H Q _=>∃(f:Fm) (p:L6) (us:List V) (ss:List (Int×Rk2.Tr)),vs=[↥f.a,↥p]/\FrAt t H f/\aG K (ers f.bx H) p us/\Rk2.Ps (jC K (ers f.bx H)) us ss/\(∀u∈ss,da u.2)/\Rk2.DV f.kvs/\ss.length<=1000/\f.kvs.length<=10000 /\
 ∀H',aB (ers f.bx H) H'->H' f.bx=⇑(.dK (setK f.kvs ss))->Q .non H'
abbrev ce (K:L7) (t:Adr) (Hb H:Hp) (w:Wr) (wt:L6) (fs:List Fm) (wl:List V) (fns:List F2.Fd) (cs:List (Str×List Spt)) (ms:List 0xA):Prop:=∃oc sent cn,CA t Hb H w wt fs oc sent cn wl/\Dt K t Hb w fns cs ms/\wl.length<=100/\fs.length<=100
def ce.keep {K:L7} {t:Adr} {Hb H H2:Hp} {w:Wr} {wt:L6} {fs:List Fm} {wl:List V} {fns:List F2.Fd} {cs:List (Str×List Spt)} {ms:List 0xA} (h:ce K t Hb H w wt fs wl fns cs ms) (s:aB H H2):ce K t Hb H2 w wt fs wl fns cs ms:=by let#[oc,sent,cn,h1,h2]:=h;show#[oc,sent,cn,Own.keep h1 s,h2]
abbrev An (K:L7) (t:Adr):L2.Sp:=λvs H Q _=>∃(w:Wr) (wt:L6) (fs:List Fm) (oc:V) (sent:List V) (cn:Wk.Cn) (wl:List V) (Hb:Hp),vs=[↥w.a]/\CA t Hb H w wt fs oc sent cn wl/\fs.length<=100/\Q (.bl (decide (fs=[]))) H
abbrev tJ (K:L7) (t:Adr):L2.Sp:=λvs H Q _=>∃(w:Wr) (wt:L6) (fs:List Fm) (oc:V) (sent:List V) (cn:Wk.Cn) (wl:List V) (Hb:Hp),vs=[↥w.a]/\CA t Hb H w wt fs oc sent cn wl/\Q oc H
abbrev zt (K:L7) (t:Adr):L2.Sp:=λvs H Q _=>∃(w:Wr) (wt:L6) (fs:List Fm) (wl:List V) (fns:List F2.Fd) (cs:List (Str×List Spt)) (ms:List 0xA) (Hb:Hp) (i:Nat) (f:Fm),vs=[↥w.a,.int i]/\ce K t Hb H w wt fs wl fns cs ms/\Ow fs wl i f/\Q ↥f.a H
abbrev DP (K:L7) (t:Adr):L2.Sp:=λvs H Q _=>∃(w:Wr) (wt:L6) (fs:List Fm) (wl:List V) (fns:List F2.Fd) (cs:List (Str×List Spt)) (ms:List 0xA) (Hb:Hp) (f:Fm) (s:Spt),vs=[↥w.a,↥f.a]/\ce K t Hb H w wt fs wl fns cs ms/\f∈fs/\ko cs f s/\∀v,gg K Hb s v->Q v H
abbrev GP (K:L7) (t:Adr):L2.Sp:=λvs H Q _=>∃(w:Wr) (wt:L6) (fs:List Fm) (wl:List V) (fns:List F2.Fd) (cs:List (Str×List Spt)) (ms:List 0xA) (Hb:Hp) (f:Fm) (m:Mk),vs=[↥w.a,↥f.a]/\ce K t Hb H w wt fs wl fns cs ms/\f∈fs/\fC ms f m/\∀v,gp K Hb m v->Q v H
abbrev Ca (K:L7) (t:Adr):L2.Sp:=λvs H Q _=>∃(w:Wr) (wt:L6) (fs:List Fm) (wl:List V) (fns:List F2.Fd) (cs:List (Str×List Spt)) (ms:List 0xA) (Hb:Hp) (f:Fm) (m:Mk),vs=[↥w.a,↥f.a]/\ce K t Hb H w wt fs wl fns cs ms/\f∈fs/\fC ms f m/\∀c,gA K Hb c m.ch->Q ↥c H
abbrev fV (ms:List 0xA) (fs:List Fm) (wl:List V) (z:Int):Prop:=z<0\/fs=[]\/∃(i:Nat) (f:Fm) (m:Mk),z=(i:Int)/\Ow fs wl i f/\fC ms f m/\f.first<=i/\m.ch.length<=i - f.first/\m.ch.length<=100
structure LvF (ms:List 0xA) (fs:List Fm) (wl:List V) (fns:List F2.Fd) (i:Nat) (f:Fm) (m:Mk) (p:Str×Nat) (pl:List (Option Rk2.Tr)) (F:F2.Fd):Prop where
 lv:Lv ms fs wl i f m p pl
 c:m.ch.length<=100
 fn:F∈fns
 nm:p.1=F.name
 n1:(F2.nms F).length<=100
 pn:pl.length=(F2.nms F).length
 ok:∀u,⇑u∈pl->da u
 dv:Rk2.DV f.kvs
 nd:(F2.nms F).Nodup
 k1:f.kvs.length<=10000
abbrev tlV (kvs:List (aF×V)):Hl Rk2.Tr->V
 | none=>.non
 | some u=>.int (Rk2.wv (Rk2.fOf kvs) u)
abbrev dn (first:Nat) (m:Mk) (nm:List (List Str)) (k:Nat):List (Nat×Str×Hl Rk2.Tr):=((nm.getD k []).zip (m.vs.getD k [])).map λx=>(first+k,x.1,x.2)
abbrev dZ (first:Nat) (m:Mk) (nm:List (List Str)) (n:Nat):List (Nat×Str×Hl Rk2.Tr):=(List.range n).flatMap (dn first m nm)
abbrev eJ (K:L7) (H:Hp) (x:Nat×Str×Hl Rk2.Tr) (u:V):Prop:=∃q v,u=↥q/\aG K H q [.int x.1,.str x.2.1,v]/\bp H x.2.2 v
def eJ.mono {K:L7} {H H':Hp} {x:Nat×Str×Hl Rk2.Tr} {u:V} (e:aB H H') (h:eJ K H x u):eJ K H' x u:=by let#[q,v,h1,h2,h3]:=h; show#[q,v,h1,e<*h2,bp.mono e h3]
abbrev Dl (K:L7) (t:Adr):L2.Sp:=λvs H Q _=>∃(w:Wr) (wt:L6) (fs:List Fm) (wl:List V) (fns:List F2.Fd) (cs:List (Str×List Spt)) (ms:List 0xA) (Hb:Hp) (z:Int),vs=[↥w.a,.int z]/\ce K t Hb H w wt fs wl fns cs ms/\((∃(i:Nat) (f:Fm) (m:Mk) (p:Str×Nat) (pl:List (Hl Rk2.Tr)),z=(i:Int)/\Lv ms fs wl i f m p pl/\m.ch.length<=100/\∀v,dI K Hb p v->Q v H)\/(fV ms fs wl z/\Q .non H))
abbrev Dh (K:L7) (t:Adr):L2.Sp:=λvs H Q _=>∃(w:Wr) (wt:L6) (fs:List Fm) (wl:List V) (fns:List F2.Fd) (cs:List (Str×List Spt)) (ms:List 0xA) (Hb:Hp) (i:Nat) (f:Fm) (m:Mk) (p:Str×Nat) (pl:List (Hl Rk2.Tr)) (F:F2.Fd),vs=[↥w.a,.int i]/\ce K t Hb H w wt fs wl fns cs ms/\Lv ms fs wl i f m p pl/\m.ch.length<=100/\F∈fns/\p.1=F.name/\(F2.nms F).length<=1000/\∀nl H',aB H H'->Hb nl=⇑(.lst ((F2.nms F).map V.str))->H' nl=⇑(.lst ((F2.nms F).map V.str))->Q ↥nl H'
abbrev E9 (K:L7) (t:Adr):L2.Sp:=λvs H Q E=>∃(w:Wr) (wt:L6) (fs:List Fm) (wl:List V) (fns:List F2.Fd) (cs:List (Str×List Spt)) (ms:List 0xA) (Hb:Hp) (z:Int),vs=[↥w.a,.int z]/\ce K t Hb H w wt fs wl fns cs ms/\((∃(i:Nat) (f:Fm) (m:Mk) (p:Str×Nat) (pl:List (Hl Rk2.Tr)),z=(i:Int)/\Lv ms fs wl i f m p pl/\m.ch.length<=100/\Q .non H)\/(fV ms fs wl z/\∀H',aB H H'->E ↥t.x_nN none H'))
abbrev F' (K:L7) (t:Adr):L2.Sp:=λvs H Q E=>∃(w:Wr) (wt:L6) (fs:List Fm) (wl:List V) (fns:List F2.Fd) (cs:List (Str×List Spt)) (ms:List 0xA) (Hb:Hp) (z:Int) (n:Str),vs=[↥w.a,.int z,.str n]/\ce K t Hb H w wt fs wl fns cs ms/\((∃(i:Nat) (f:Fm) (m:Mk) (p:Str×Nat) (pl:List (Hl Rk2.Tr)) (F:F2.Fd),z=(i:Int)/\LvF ms fs wl fns i f m p pl F/\(n∈F2.nms F->∀H',aB H H'->Q .non H')/\(n ∉ F2.nms F->∀H',aB H H'->E ↥t.x_nN none H'))\/(fV ms fs wl z/\∀H',aB H H'->E ↥t.x_nN none H'))
abbrev Az (K:L7) (t:Adr):L2.Sp:=λvs H Q E=>∃(w:Wr) (wt:L6) (fs:List Fm) (wl:List V) (fns:List F2.Fd) (cs:List (Str×List Spt)) (ms:List 0xA) (Hb:Hp) (z:Int) (n:Str),vs=[↥w.a,.int z,.str n]/\ce K t Hb H w wt fs wl fns cs ms/\((∃(i:Nat) (f:Fm) (m:Mk) (p:Str×Nat) (pl:List (Hl Rk2.Tr)) (F:F2.Fd),z=(i:Int)/\LvF ms fs wl fns i f m p pl F/\(n∈F2.nms F->∀o,pl[(F2.nms F).idxOf n]?=⇑o->∀v H',aB H H'->bp Hb o v->Q v H')/\(n ∉ F2.nms F->∀H',aB H H'->E ↥t.x_nN none H'))\/(fV ms fs wl z/\∀H',aB H H'->E ↥t.x_nN none H'))
abbrev zd (K:L7) (t:Adr):L2.Sp:=λvs H Q _=>∃(w:Wr) (wt:L6) (fs:List Fm) (wl:List V) (fns:List F2.Fd) (cs:List (Str×List Spt)) (ms:List 0xA) (Hb:Hp) (i:Nat) (f:Fm) (m:Mk) (p:Str×Nat) (pl:List (Hl Rk2.Tr)) (F:F2.Fd) (n:Str) (o:Hl Rk2.Tr),vs=[↥w.a,.int i,.str n]/\ce K t Hb H w wt fs wl fns cs ms/\LvF ms fs wl fns i f m p pl F/\n∈F2.nms F/\pl[(F2.nms F).idxOf n]?=⇑o/\∀H',aB H H'->Q (tlV f.kvs o) H'
abbrev Cp (K:L7) (t:Adr):L2.Sp:=λvs H Q E=>∃(w:Wr) (wt:L6) (fs:List Fm) (wl:List V) (fns:List F2.Fd) (cs:List (Str×List Spt)) (ms:List 0xA) (Hb:Hp) (z:Int) (n:Str),vs=[↥w.a,.int z,.str n]/\ce K t Hb H w wt fs wl fns cs ms/\((∃(i:Nat) (f:Fm) (m:Mk) (p:Str×Nat) (pl:List (Hl Rk2.Tr)) (F:F2.Fd),z=(i:Int)/\LvF ms fs wl fns i f m p pl F/\(n∈F2.nms F->∀o,pl[(F2.nms F).idxOf n]?=⇑o->∀H',aB H H'->Q (tlV f.kvs o) H')/\(n ∉ F2.nms F->∀H',aB H H'->E ↥t.x_nN none H'))\/(fV ms fs wl z/\∀H',aB H H'->E ↥t.x_nN none H'))
abbrev GG (K:L7) (t:Adr):L2.Sp:=λvs H Q E=>∃(w:Wr) (wt:L6) (fs:List Fm) (wl:List V) (fns:List F2.Fd) (cs:List (Str×List Spt)) (ms:List 0xA) (Hb:Hp) (z:Int),vs=[↥w.a,.int z]/\ce K t Hb H w wt fs wl fns cs ms/\((∃(i:Nat) (f:Fm) (m:Mk) (p:Str×Nat) (pl:List (Hl Rk2.Tr)) (nm:List (List Str)),z=(i:Int)/\Lv ms fs wl i f m p pl/\m.ch.length<=100/\m.vs.length=m.ch.length/\nm.length=m.ch.length/\(∀(k:Nat) p1 pl1,m.ch[k]?=⇑p1->m.vs[k]?=⇑pl1->∃F,LvF ms fs wl fns (f.first+k) f m p1 pl1 F/\nm[k]?=⇑(F2.nms F))/\∀l us H',aB H H'->H l=none->H' l=⇑(.lst us)->Rk2.Ps (eJ K (ers l H')) us (dZ f.first m nm m.ch.length)->Q ↥l H')\/(fV ms fs wl z/\∀H',aB H H'->E ↥t.x_nN none H'))
abbrev Cb (K:L7) (t:Adr):L2.Sp:=λvs H Q E=>∃(w:Wr) (wt:L6) (fs:List Fm) (wl:List V) (fns:List F2.Fd) (cs:List (Str×List Spt)) (ms:List 0xA) (Hb:Hp) (z b v:Int),vs=[↥w.a,.int z,.int b,.int v]/\ce K t Hb H w wt fs wl fns cs ms/\((∃(i:Nat) (f:Fm) (m:Mk) (p:Str×Nat) (pl:List (Hl Rk2.Tr)),z=(i:Int)/\Lv ms fs wl i f m p pl/\m.ch.length<=100/\f.kvs.length<100000/\∀H',aB (ers f.bx H) H'->H' f.bx=⇑(.dK (iR f.kvs ⇑b v))->Q (.bl true) H')\/(fV ms fs wl z/\∀H',aB H H'->E ↥t.x_nN none H'))
abbrev Ec (K:L7) (t:Adr):L2.Sp:=λvs H Q _=>∃(w:Wr) (wt:L6) (fs:List Fm) (wl:List V) (fns:List F2.Fd) (cs:List (Str×List Spt)) (ms:List 0xA) (Hb:Hp) (mf:List Mk),vs=[↥w.a]/\ce K t Hb H w wt fs wl fns cs ms/\mf.length=fs.length/\(∀(j:Nat) f m,fs[j]?=⇑f->mf[j]?=⇑m->fC ms f m/\m.ch.length<=100)/\∀l us H',aB H H'->H l=none->H' l=⇑(.lst us)->Rk2.Ps (dI K Hb) us (mf.flatMap (·.ch))->Q ↥l H'
abbrev zb (K:L7) (t:Adr):L2.Sp:=λvs H Q _=>∃(w:Wr) (wt:L6) (fs:List Fm) (wl:List V) (fns:List F2.Fd) (cs:List (Str×List Spt)) (ms:List 0xA) (Hb:Hp) (oc:V) (sent:List V) (cn:Wk.Cn) (g:Str) (ar:L6) (ys:List V),vs=[↥w.a,.str g,↥ar]/\CA t Hb H w wt fs oc sent cn wl/\wl.length<=100/\fs.length<=100/\aE K H ar ys/\ys.length<=1000 /\
 ∀x dx bx Hb' H',aB Hb Hb'->CA t Hb' H' w wt (fs++[#[x,dx,bx,g,(0),bf ys,wl.length]]) oc sent cn wl->Q .non H'
structure FOk (f:Fm) (ss:List (Int×Rk2.Tr)):Prop where
 dv:Rk2.DV f.kvs
 len:f.kvs.length<=10000
 ok:∀u∈ss,da u.2
 n:ss.length<=1000
abbrev CL (K:L7) (t:Adr):L2.Sp:=λvs H Q _=>∃(w:Wr) (wt:L6) (fns:List F2.Fd) (cs:List (Str×List Spt)) (ms:List 0xA) (Hb:Hp) (oc:V) (sent:List V) (cn:Wk.Cn) (wl:List V) (fs0:List Fm) (f:Fm) (z:Int),vs=[↥w.a,.int z]/\CA t Hb H w wt (fs0++[f]) oc sent cn wl/\Dt K t Hb w fns cs ms/\wl.length<=100/\fs0.length<100 /\
 ((fs0=[]/\∀Hb' H',aB Hb Hb'->CA t Hb' H' w wt [] (.int z) sent cn wl->Q .non H') \/
 ∃fs1 f1 ss b n,fs0=fs1++[f1]/\ko cs f1 #[ss,.wait b n]/\FOk f1 ss/\∀wt' Hb' H',aB Hb Hb'->CA t Hb' H' w wt' (fs1++[{ f1 with kvs:=iR (setK f1.kvs ss) b z,spot:=n }]) oc sent cn (wl.take f1.first)->Q .non H')
abbrev Db (K:L7) (t:Adr):L2.Sp:=λvs H Q _=>∃(w:Wr) (wt:L6) (fns:List F2.Fd) (cs:List (Str×List Spt)) (ms:List 0xA) (Hb:Hp) (oc:V) (sent:List V) (cn:Wk.Cn) (wl:List V) (fs0:List Fm) (f:Fm) (a:Ac) (v:V) (l:L6) (zs:List Int),vs=[↥w.a,↥f.a,v,↥l]/\CA t Hb H w wt (fs0++[f]) oc sent cn wl/\Dt K t Hb w fns cs ms/\wl.length<=100/\fs0.length<100/\iB K Hb a v/\Hb l=⇑(.lst (zs.map V.int))/\zs.length=(fg a).length/\zs.length<=1000 /\
 ((∃g ts n m,a=.call g ts n/\fC ms { f with spot:=n } m/\wl.length+m.ch.length<=100/\∀x dx bx Hb' H',aB Hb Hb'->CA t Hb' H' w wt (fs0++[{ f with spot:=n }]++[#[x,dx,bx,g,(0),bf (zs.map V.int),wl.length+m.ch.length]]) oc sent cn (wl++List.replicate m.ch.length ↥f.a)->Q .non H') \/
 (∃tr,a=.back tr/\((fs0=[]/\∀Hb' H',aB Hb Hb'->CA t Hb' H' w wt [] (.int (zs.headD 0)) sent cn wl->Q .non H') \/
 ∃fs1 f1 ss b n,fs0=fs1++[f1]/\ko cs f1 #[ss,.wait b n]/\FOk f1 ss/\∀wt' Hb' H',aB Hb Hb'->CA t Hb' H' w wt' (fs1++[{ f1 with kvs:=iR (setK f1.kvs ss) b (zs.headD 0),spot:=n }]) oc sent cn (wl.take f1.first)->Q .non H')))
abbrev uK (K:L7) (t:Adr):L2.Sp:=λvs H Q _=>∃(w:Wr) (wt:L6) (fns:List F2.Fd) (cs:List (Str×List Spt)) (ms:List 0xA) (Hb:Hp) (oc:V) (sent:List V) (cn:Wk.Cn) (wl:List V) (fs0:List Fm) (f:Fm) (a:Ac) (ss:List (Int×Rk2.Tr)),vs=[↥w.a]/\CA t Hb H w wt (fs0++[f]) oc sent cn wl/\Dt K t Hb w fns cs ms/\wl.length<=100/\fs0.length<100/\ko cs f #[ss,a]/\FOk f ss/\(∀u∈fg a,da u)/\(fg a).length<=100 /\
 ((∃g ts n m,a=.call g ts n/\fC ms { f with spot:=n } m/\wl.length+m.ch.length<=100/\∀x dx bx Hb' H',aB Hb Hb'->CA t Hb' H' w wt (fs0++[{ f with kvs:=setK f.kvs ss,spot:=n }]++[#[x,dx,bx,g,(0),bf (((fg a).map (Rk2.wv (Rk2.fOf f.kvs))).map V.int),wl.length+m.ch.length]]) oc sent cn (wl++List.replicate m.ch.length ↥f.a)->Q .non H') \/
 (∃tr,a=.back tr/\((fs0=[]/\∀Hb' H',aB Hb Hb'->CA t Hb' H' w wt [] (.int (Rk2.wv (Rk2.fOf f.kvs) tr)) sent cn wl->Q .non H') \/
 ∃fs1 f1 ss b n,fs0=fs1++[f1]/\ko cs f1 #[ss,.wait b n]/\FOk f1 ss/\∀wt' Hb' H',aB Hb Hb'->CA t Hb' H' w wt' (fs1++[{ f1 with kvs:=iR (setK f1.kvs ss) b (Rk2.wv (Rk2.fOf f.kvs) tr),spot:=n }]) oc sent cn (wl.take f1.first)->Q .non H')))
abbrev FZ (K:L7) (t:Adr):L2.Sp:=λvs H Q E=>∃(x:L6),vs=[↥x]/\(uK K t [↥x] H Q E\/∃(Hb:Hp) (w:Wr) (wt:L6) (oc:V) (sent:List V) (cn:Wk.Cn) (wl:List V),w.a=x/\CA t Hb H w wt [] oc sent cn wl/\∀H',aB H H'->E ↥t.cm none H')
def db (f:Str) (v:V) (l:List (Str×V)) (n:Nat) (h:l.length<=n):(bT f v l).length<=n+1:=Hu (oC f v l) ∅
abbrev w0 (x dx st sd ct fl:L6):Wr:=#[x,dx,st,sd,ct,fl,x,x]
abbrev ze (K:L7) (t:Adr):L2.Sp:=λvs H Q _=>∃(x dx p:L6) (fns:List F2.Fd),vs=[↥x,↥p]/\H x=⇑(.ins t.bJ dx [])/\aE K (ers x H) p (fns.map λf=>V.ref f.fa)/\fns≠[]/\fns.length<=12/\(∀f∈fns,F2.FnAt K (ers x H) f)/\(fns.map (·.name)).Nodup /\
 ∀fl st sd ct Hb H',aB (ers x H) Hb->Own Hb H' [(x,.ins t.bJ dx (wF (w0 x dx st sd ct fl) .non 0)),(st,.lst []),(sd,.lst []),(ct,.dT [])]->F2.FlowsAt K t.bq Hb fl fns->Q .non H'
abbrev AJ (K:L7) (t:Adr):L2.Sp:=λvs H Q _=>∃(x dx p ar:L6) (cv tv:V) (fns:List F2.Fd) (F:F2.Fd) (cs:List (Str×List Spt)) (ms:List 0xA) (ys:List V),vs=[↥x,↥p,cv,tv,↥ar]/\H x=⇑(.ins t.bJ dx [])/\aE K (ers x H) p (fns.map λf=>V.ref f.fa)/\fns≠[]/\fns.length<=12/\(∀f∈fns,F2.FnAt K (ers x H) f)/\(fns.map (·.name)).Nodup/\fns[fns.length - 1]?=⇑F /\
 jB K (ers x H) cv cs/\(cs.map (·.1)).Nodup/\cs.length<=100/\(∀c∈cs,c.2.length<=1000/\∀s∈c.2,s.sets.length<=1000)/\i' K (ers x H) tv ms/\(ms.map (·.1)).Nodup/\ms.length<=100/\(∀c∈ms,c.2.length<=1000/\∀m∈c.2,m.vs.length<=1000/\∀p∈m.vs,p.length<=1000)/\aE K (ers x H) ar ys/\ys.length<=1000 /\
 ∀w wt fa fdx fbx Hb H',w.a=x->aB (ers x H) Hb->CA t Hb H' w wt [#[fa,fdx,fbx,F.name,(0),bf ys,(0)]] .non [] #[[],(0)] []->Dt K t Hb w fns cs ms->Q .non H'
abbrev DD (K:L7):L2.Sp:=λvs H Q _=>∃(s:Str) (a b:Int),vs=[.str s,.int a,.int b]/\0<=a/\0<=b/\a<K21.wide/\b<K21.wide/\Q (.int (K21.valOf s a b)) H
abbrev BK (K:L7):L2.Sp:=λvs H Q _=>∃(a:L6) (ns:List Int) (k:Int),vs=[↥a,.int k]/\aE K H a (ns.map V.int)/\ns.length<=63/\0<=k/\∀z,Q (.int z) H
abbrev Bi (K:L7):L2.Sp:=λvs H Q _=>∃(z:Int),vs=[.int z]/\Q (.bl true) H
abbrev CT (K:L7):L2.Sp:=λvs H Q _=>∃(c:Int),vs=[.int c]/\∀z,0<=z->z<K21.wide->Q (.int z) H
abbrev nP (K:L7) (n:Nat):L2.Sp:=λvs H Q _=>∃(tr:Rk2.Tr) (v:V) (d:L6) (kvs:List (aF×V)),vs=[v,↥d]/\Rk2.dp tr<n/\Rk2.RAt H tr v/\H d=⇑(.dK kvs)/\Rk2.DV kvs/\Rk2.okl (Rk2.lvs tr)/\Q (.int (Rk2.wv (Rk2.fOf kvs) tr)) H
abbrev EU (K:L7):L2.Sp:=λvs H Q _=>∃(c:Int) (mn:Nat),vs=[.int c,.int mn]/\mn<=20/\∀ws:List Str,ws.length=mn->ws.Nodup->(∀w∈ws,K12.Nm w)->(∀w∈ws,w≠"")->K12.Gives H Q (ws.map V.str)
abbrev G7 (K:L7):L2.Sp:=λvs H Q _=>∃(l1 l2:L6) (us ws:List V) (ch:List (Str×Nat)),vs=[↥l1,↥l2]/\aE K H l1 us/\aE K H l2 ws/\Rk2.Ps (dI K H) us ch/\Rk2.Ps (dI K H) ws ch/\(∀p∈ch,PyData.strOk p.1=true)/\Q (.bl true) H
abbrev D9 (K:L7):L2.Sp:=λvs H Q _=>∃(c:Int) (bl:L6) (bs:List Int),vs=[.int c,↥bl]/\aE K H bl (bs.map V.int)/\BxL bs/\∀tr v H',aB H H'->Rk2.RAt H' tr v->TOk' 7 tr->Q v H'
abbrev mO (K:L7) (n:Nat):L2.Sp:=λvs H Q _=>∃(tr:Rk2.Tr) (x y:V),vs=[x,y]/\Rk2.dp tr<n/\Rk2.RAt H tr x/\Rk2.RAt H tr y/\Q (.bl true) H
abbrev F8 (K:L7):L2.Sp:=λvs H Q _=>∃(own:Str) (nl:L6) (ws:List Str) (m:Nat),vs=[.str own,↥nl,.int m]/\aE K H nl (ws.map V.str)/\ws≠[]/\ws.length<=20/\ws.Nodup/\(∀w∈ws,K12.Nm w)/\m<=ws.length/\∀F H',aB H H'->F2.FnAt K H' F->F.name=own->F2.nms F=ws->F.ps.length=m->F.ps.length+F.rs.length=ws.length+2->Q ↥F.fa H'
abbrev Fs (K:L7) (t:Adr):L2.Sp:=λvs H Q _=>∃(w:Wr) (wt:L6) (fs:List Fm) (wl:List V) (fns:List F2.Fd) (cs:List (Str×List Spt)) (ms:List 0xA) (Hb:Hp) (y:Nat) (z:Int) (n:Str),vs=[↥w.a,.int y,.int z,.str n]/\ce K t Hb H w wt fs wl fns cs ms/\((fV ms fs wl z/\∀H',aB H H'->Q (.bl true) H')\/∃(i:Nat) (f:Fm) (m:Mk) (p:Str×Nat) (pl:List (Hl Rk2.Tr)) (F:F2.Fd),z=(i:Int)/\y<2/\LvF ms fs wl fns i f m p pl F/\∀H',aB H H'->Q (.bl (decide (n ∉ F2.nms F))) H')
abbrev zl (K:L7):L2.Sp:=λvs H Q _=>∃(l1 l2:L6) (us ws:List V) (xs:List (Nat×Str×Hl Rk2.Tr)),vs=[↥l1,↥l2]/\aE K H l1 us/\aE K H l2 ws/\Rk2.Ps (eJ K H) us xs/\Rk2.Ps (eJ K H) ws xs/\(∀x∈xs,PyData.strOk x.2.1=true/\∀u,x.2.2=⇑u->da u)/\xs.length<=1000/\∀H',aB H H'->Q (.bl true) H'
abbrev Gh (K:L7) (t:Adr):L2.Sp:=λvs H Q _=>∃(w:Wr) (wt:L6) (fs:List Fm) (wl:List V) (fns:List F2.Fd) (cs:List (Str×List Spt)) (ms:List 0xA) (Hb:Hp) (i:Nat) (f:Fm) (m:Mk) (p:Str×Nat) (pl:List (Hl Rk2.Tr)) (F:F2.Fd) (n:Str) (o:Hl Rk2.Tr) (v:V) (d:L6),vs=[↥w.a,.int i,.str n,v,↥d]/\ce K t Hb H w wt fs wl fns cs ms/\LvF ms fs wl fns i f m p pl F/\n∈F2.nms F/\pl[(F2.nms F).idxOf n]?=⇑o/\bp H o v/\H d=⇑(.dK f.kvs)/\∀H',aB H H'->Q (.bl true) H'
abbrev CQ (K:L7):L2.Sp:=λvs H Q _=>∃(c:Int) (pl bl:L6) (fns:List F2.Fd) (fi:Nat) (bs:List Int),vs=[.int c,↥pl,.int fi,↥bl]/\aE K H pl (fns.map λf=>V.ref f.fa)/\fns.length=3/\(∀F∈fns,F2.FnAt K H F/\FnOk F)/\fi<3/\aE K H bl (bs.map V.int)/\BxL bs/\∀m v H',aB H H'->qZ K H H' m v->MkOk fns m->(∀F,fns[fi]?=⇑F->∃r,m.ch[0]?=⇑(F.name,r))->Q v H'
noncomputable abbrev Lf:=Fm×Mk×L6
abbrev dE (L:List Lf) (i:Nat):Nat:=((L.take i).flatMap (·.2.1.ch)).length
structure FmOk (fns:List F2.Fd) (ms:List 0xA) (fs:List Fm) (wl:List V) (b:Nat) (x:Lf):Prop where
 ma:fC ms x.1 x.2.1
 ok:MkOk fns x.2.1
 dv:Rk2.DV x.1.kvs
 k1:x.1.kvs.length<=10000
 fi:x.1.first=b
 ow:∀k,k<x.2.1.ch.length->Ow fs wl (b+k) x.1
structure StA (fns:List F2.Fd) (ms:List 0xA) (wl:List V) (L:List Lf):Prop where
 fn:∀F∈fns,FnOk F
 at_:∀(i:Nat) x,L[i]?=⇑x->FmOk fns ms (L.map (·.1)) wl (dE L i) x
 out:∀i:Nat,dE L L.length<=i->fV ms (L.map (·.1)) wl i
 hl:L.length<=2
abbrev OwA (K:L7) (H:Hp) (x:Lf) (v:V):Prop:=∃q mv,v=↥q/\aG K H q [mv,↥x.2.2]/\dD K H x.2.1 mv/\H x.2.2=⇑(.dK x.1.kvs)
structure NmD (K:W.Frag) (H:Hp) (nd al:Addr) (kn:List (aF×V)) (fns:List F2.Fd) (ws:List Str):Prop where
 d:H nd=⇑(.dK kn)
 fn:∀F∈fns,∃nl,au kn (Sum.inr F.name:aF)=⇑↥nl/\aE K H nl ((F2.nms F).map V.str)
 no:au kn (Sum.inr "":aF)=⇑↥al
 al:aE K H al (ws.map V.str)
 ne:ws≠[]
 len:ws.length<=100
def NmD.mono {K:L7} {H H':Hp} {nd al:L6} {kn:List (aF×V)} {ws:List Str} (e:aB H H') (h:NmD K H nd al kn fns ws):NmD K H' nd al kn fns ws:=#[e _ _ h.d,λF hF=>by let#[nl,a,b]:=h.fn F hF; show#[nl,a,e.seq b],h.no,e.seq h.al,h.ne,h.len]
def qU {ms:List 0xA} {L:List Lf} {i k:Nat} {x:Lf} {p:Str×Nat} {pl:List (Hl Rk2.Tr)} (S:StA fns ms wl L) (hx:L[i]?=⇑x) (hp:x.2.1.ch[k]?=⇑p) (hv:x.2.1.vs[k]?=⇑pl):∃F,LvF ms (L.map (·.1)) wl fns (x.1.first+k) x.1 x.2.1 p pl F:=by
 have M:=S.at_ i x hx;let#[F,h1,h2,h3,h4]:=M.ok.p.at_ k p pl hp hv;have O:=S.fn F h1;have hk:=(HV.mp hp).1;have e:x.1.first+k - x.1.first=k:=by lia
 show#[F,#[by rw[M.fi]; exact M.ow k hk,M.ma,Jq _ _,by rw[e]; exact hp,by rw[e]; exact hv],Hu M.ok.l3 #[],h1,h2,Hu O.n1 #[],h3,h4,M.dv,O.nd,M.k1]
def zT {ms:List 0xA} {L:List Lf} {i:Nat} {x:Lf} (S:StA fns ms wl L) (hx:L[i]?=⇑x):∃nm:List (List Str),nm.length=x.2.1.ch.length/\∀(k:Nat) p1 pl1,x.2.1.ch[k]?=⇑p1->x.2.1.vs[k]?=⇑pl1->∃F,LvF ms (L.map (·.1)) wl fns (x.1.first+k) x.1 x.2.1 p1 pl1 F/\nm[k]?=⇑(F2.nms F):=by
 have M:=S.at_ i x hx;have lv:=M.ok.p.len;let#[nm,h1,h2]:=u8 (P:=λk s=>∃p1 pl1 F,x.2.1.ch[k]?=⇑p1/\x.2.1.vs[k]?=⇑pl1/\LvF ms (L.map (·.1)) wl fns (x.1.first+k) x.1 x.2.1 p1 pl1 F/\s=F2.nms F) x.2.1.ch.length λk hk=>by have e1:=HU (l:=x.2.1.ch) (i:=k) hk;have e2:=HU (l:=x.2.1.vs) (i:=k) ∅;let#[F,hF]:=qU S hx e1 e2;show#[8,F,e1,e2,hF,rfl]
 show#[nm,h1,λk p1 pl1 e1 e2=>?_];let#[s,a,p,pl,F,b1,b2,b3,rfl]:=h2 k (HV.mp e1).1;rw[e1] at b1;rw[e2] at b2;cases b1;cases b2;show#[F,b3,a]
def AL (b:Nat) (m:Mk) (nm:List (List Str)) (n:Nat):dZ b m nm (n+1)=dZ b m nm n++dn b m nm n:=by unfold dZ; rw[Ju,IZ]; simp
def uB {b:Nat} {m:Mk} {nm:List (List Str)} {n:Nat} {x:Nat×Str×Hl Rk2.Tr} (h:x∈dZ b m nm n):∃k,k<n/\x∈dn b m nm k:=by let#[k,h1,h2]:=Km.mp h;show#[k,KR.mp h1,h2]
def CG {L:List Lf} {i:Nat} {x:Lf} (h:L[i]?=⇑x):dE L (i+1)=dE L i+x.2.1.ch.length:=by unfold dE;rw[IM,h,IZ,HZ];simp
def ut {ms:List 0xA} {fs:List Fm} {f:Fm} {m:Mk} {nm:List (List Str)} {k:Nat} {x:Nat×Str×Hl Rk2.Tr} (hv:m.vs.length=m.ch.length) (hk:∀(k:Nat) p1 pl1,m.ch[k]?=⇑p1->m.vs[k]?=⇑pl1->∃F,LvF ms fs wl fns (f.first+k) f m p1 pl1 F/\nm[k]?=⇑(F2.nms F)) (hc:k<m.ch.length) (h:x∈dn f.first m nm k):∃p pl F,LvF ms fs wl fns x.1 f m p pl F/\x.2.1∈F2.nms F/\pl[(F2.nms F).idxOf x.2.1]?=⇑x.2.2:=by have e1:=HU (l:=m.ch) (i:=k) hc;have e2:=HU (l:=m.vs) (i:=k) ∅;let#[F,LF,hn]:=hk k _ _ e1 e2;unfold dn at h;rw[jW hn,jW e2] at h;let#[y,hy,rfl]:=IJ.mp h;let#[j,hj]:=JU.mp hy;rw[Jt] at hj;show#[4,F,LF,IA hj.1,?_];show m.vs[k][(F2.nms F).idxOf y.1]?=⇑y.2;rw[Dp LF.nd hj.1];exact hj.2
abbrev Gq (K:L7) (t:Adr):L2.Sp:=λvs H Q _=>∃(w:Wr) (wt:L6) (wl:List V) (fns:List F2.Fd) (cs:List (Str×List Spt)) (ms:List 0xA) (Hb:Hp) (L:List Lf) (nd al ol:L6) (kn:List (aF×V)) (ws:List Str) (us:List V) (hi:Nat),vs=[↥w.a,↥ol,↥nd,.int hi]/\ce K t Hb H w wt (L.map (·.1)) wl fns cs ms/\StA fns ms wl L/\NmD K H nd al kn fns ws/\aE K H ol us/\Rk2.Ps (OwA K H) us L/\∀H',aB H H'->Q (.bl true) H'
structure Wm (t:Adr) (Hd Hb H:Hp) (w:Wr) (wt:Addr) (L:List Lf) (oc:V) (wl:List V):Prop where
 c:CA t Hb H w wt (L.map (·.1)) oc [] #[[],(0)] wl
 s:aB Hd Hb
 at_:∀x∈L,Hb x.2.2=⇑(.dK x.1.kvs)
 no:∀x∈L,Hd x.2.2=none
 nd:(L.map (·.2.2)).Nodup
section
variable {Hd Hb H H' H2:Hp} {w:Wr} {wt:L6} {L A B:List Lf} {x:Lf} {oc:V} {wl:List V}
def Wm.b (h:Wm t Hd Hb H w wt L oc wl):aB Hd H:=h.s\h.c.b
def Wm.keep (h:Wm t Hd Hb H w wt L oc wl) (s:aB H H'):Wm t Hd Hb H' w wt L oc wl:=#[Own.keep h.c s,h.s,h.at_,h.no,h.nd]
def Wm.grow (h:Wm t Hd Hb H w wt L oc wl) (s:aB H H'):Wm t (Wk.gr Hd H H') (Wk.gr Hb H H') H' w wt L oc wl :=
 #[Own.grow h.c s,λb o q=>by
   unfold Wk.gr at q ⊢;cases e:H b with
   | none=>rw[e] at q; exact q
   | some u=>rw[e] at q; exact h.s _ _ q,λx hx=>Wk.gr_same h.c.b _ _ (h.at_ x hx),λx hx=>Wk.gr_own (h.c.b _ _ (h.at_ x hx)) (h.no x hx),h.nd]
def Wm.fill {k:List (aF×V)} (h:Wm t Hd Hb H w wt (A++x::B) oc wl) (s1:aB (ers x.2.2 H) H') (e1:H' x.2.2=⇑(.dK k)) (s2:aB (ers x.1.bx H') H2) (e2:H2 x.1.bx=⇑(.dK k)):Wm t Hd (upd Hb x.2.2 (.dK k)) H2 w wt (A++({ x.1 with kvs:=k },x.2)::B) oc wl:=by
 have hx:=h.at_ x (Hz _ Hj);have nx:=h.no x (Hz _ Hj);have c:=h.c;unfold CA at c;rw[Hq,IF] at c;have ap:∀y,y∈A\/y∈B->y.2.2≠x.2.2:=λy hy z=>by
   have nd:=h.nd;rw[Hq,IF] at nd;have nd:=K2.mp nd;rcases hy with hy|hy
   . exact nd.2.2 _ (IJ.mpr #[y,hy,rfl]) _ Hj z
   . exact(JP.mp nd.2.1).1 (z ▸ IJ.mpr #[y,hy,rfl])
 have mm:∀y,y∈A++({ x.1 with kvs:=k },x.2)::B->y=({ x.1 with kvs:=k },x.2)\/(y∈A++x::B/\y.2.2≠x.2.2):=λy hy=>by
   rcases IH.mp hy with hy|hy
   . exact .inr #[Ik _ hy,ap y (.inl hy)]
   . rcases Hh.mp hy with rfl|hy
     . exact .inl rfl
     . exact .inr #[Hz _ (Hv _ hy),ap y (.inr hy)]
 show#[?_,h.s.upd nx,λy hy=>?_,λy hy=>?_,?_]
 . have:=bF.boxesAt (Own.putK c hx s1 e1) s2 e2;unfold CA;rw[Hq,IF];exact this
 . rcases mm y hy with rfl|⟨h1,h2⟩
   . exact aI
   . rw[aM h2];exact h.at_ y h1
 . rcases mm y hy with rfl|⟨h1,h2⟩
   . exact nx
   . exact h.no y h1
 . have:=h.nd;rw[Hq,IF] at this ⊢;exact this
end
abbrev gq (K:L7) (H:Hp) (x:Lf) (v:V):Prop:=∃q mv,v=↥q/\aG K H q [mv,↥x.2.2]/\dD K H x.2.1 mv
def gq.A {K:L7} {t:Adr} {Hd Hb H:Hp} {w:Wr} {wt:L6} {L:List Lf} {oc:V} {wl:List V} (W:Wm t Hd Hb H w wt L oc wl):∀{us:List V} {M:List Lf},(∀x∈M,x∈L)->Rk2.Ps (gq K Hd) us M->Rk2.Ps (OwA K H) us M
 | [],[],_,_=>trivial
 | u::us,x::M,hm,h=>by obtain⟨⟨q,mv,h1,h2,h3⟩,h4⟩:=h;show#[#[q,mv,h1,W.b.tup h2,h3*>W.b,W.c.b _ _ (W.at_ x (hm x Hj))],gq.A W (λy hy=>hm y (Hv _ hy)) h4]
 | [],_::_,_,h=>h.elim
 | _::_,[],_,h=>h.elim
def zn (L:List Lf):((L.map λx:Lf=>((x.2.1.ch.length:Nat):Int)).sum)=(((L.flatMap (·.2.1.ch)).length:Nat):Int):=by
 induction L with
 | nil=>rfl
 | cons x L ih=>rw[IF,Kz,ih,K3,HZ]; lia
abbrev GB (K:L7) (t:Adr):L2.Sp:=λvs H Q _=>∃(w:Wr) (wt:L6) (wl:List V) (oc:V) (Hd Hb:Hp) (L:List Lf) (fns:List F2.Fd) (cs:List (Str×List Spt)) (ms:List 0xA) (ol:L6) (us:List V) (c b z:Int),vs=[↥w.a,↥ol,.int c,.int b,.int z]/\Wm t Hd Hb H w wt L oc wl/\Dt K t Hd w fns cs ms/\wl.length<=100/\StA fns ms wl L/\aE K Hd ol us/\Rk2.Ps (gq K Hd) us L/\L≠[]/\∀A x B Hb' H',L=A++x::B->Wm t Hd Hb' H' w wt (A++({ x.1 with kvs:=putK x.1.kvs (Sum.inl b:aF) (.int z) },x.2)::B) oc wl->Q (.bl true) H'
section
variable {fns:List F2.Fd} {ms:List 0xA} {f g:Fm} {m m':Mk} {d e:L6}
def st0 (hf:∀F∈fns,FnOk F) :StA fns ms wl []:=#[hf,λi x h=>by simp at h,λi _=>.inr (.inl rfl),Hw _]
def lh (hf:∀F∈fns,FnOk F) (ma:fC ms f m) (ok:MkOk fns m) (dv:Rk2.DV f.kvs) (k1:f.kvs.length<=10000) (fi:f.first=0):StA fns ms [] [(f,m,d)]:=by
 have ow:∀k,Ow [f] [] k f:=λk=>#[Hj,.inr #[Hw _,[],rfl]]
 show#[hf,λi x h=>?_,λi h=>?_,(show(1:Nat)<=2 by decide)]
 . match i,h with
   | 0,h=>cases h; show#[ma,ok,dv,k1,fi,λk _=>ow _]
 . have h:m.ch.length<=i:=by unfold dE at h; simpa using h
   have:=ok.l3;exact .inr (.inr #[i,f,m,rfl,ow i,ma,∅,∅,∅])
def gb (hf:∀F∈fns,FnOk F) (ma:fC ms f m) (ok:MkOk fns m) (dv:Rk2.DV f.kvs) (k1:f.kvs.length<=10000) (fi:f.first=0) (ma':fC ms g m') (ok':MkOk fns m') (dv':Rk2.DV g.kvs) (k1':g.kvs.length<=10000) (fi':g.first=m.ch.length):StA fns ms (List.replicate m.ch.length (V.ref f.a)) [(f,m,d),(g,m',e)]:=by
 have ow:∀k,m.ch.length<=k->Ow [f,g] (List.replicate m.ch.length (V.ref f.a)) k g:=λk hk=>#[by simp,.inr #[by rw[JQ]; exact hk,[f],rfl]]
 have b1:dE [(f,m,d),(g,m',e)] 1=m.ch.length:=by unfold dE; simp
 show#[hf,λi x h=>?_,λi h=>?_,(show(2:Nat)<=2 by decide)]
 . match i,h with
   | 0,h=>cases h; show#[ma,ok,dv,k1,fi,λk hk=>#[by simp,.inl (by show(List.replicate m.ch.length (V.ref f.a))[0+k]?=_; rw[KH,Kn,He hk])]]
   | 1,h=>cases h; show#[ma',ok',dv',k1',by rw[b1]; exact fi',λk hk=>by rw[b1]; exact ow _ (Jq _ _)]
 . have h:m.ch.length+m'.ch.length<=i:=by unfold dE at h; simpa using h
   have:=ok'.l3;exact .inr (.inr #[i,g,m',rfl,ow i ∅,ma',∅,∅,∅])
end
def Wm.add {t:Adr} {Hd Hb H H':Hp} {w:Wr} {wt:L6} {L:List Lf} {oc:V} (h:Wm t Hd Hb H w wt L oc wl) (s:aB H H'):Wm t Hd (Wk.gr Hb H H') H' w wt L oc wl :=
 #[Own.grow h.c s,h.s\(Wk.gr_same h.c.b),λx hx=>Wk.gr_same h.c.b _ _ (h.at_ x hx),h.no,h.nd]
structure Wd where
 (o0 o2:Str)
 fns:List F2.Fd
 (m0 m1 m2 m3:Mk)
 ts:List Rk2.Tr
 far:Nat
 cs:List (Str×List Spt)
 ms:List 0xA
 ws:List Str
 kn:List (aF×V)
structure WdOk (X:Wd) (f:Fm):Prop where
 fn:∀F∈X.fns,FnOk F
 k0:MkOk X.fns X.m0
 k1:MkOk X.fns X.m1
 k2:MkOk X.fns X.m2
 k3:MkOk X.fns X.m3
 tl:X.ts.length<=20
 ts:∀u∈X.ts,da u
 fr:(X.far:Int)<K21.wide
 sp2:∃sp,(X.o2,sp)∈X.cs/\sp[0]?=⇑#[[],.call X.o0 X.ts 1]/\sp[1]?=⇑#[[],.wait none 2]/\sp[2]?=⇑#[[],.back (.num X.far)]
 sp0:∃sp,(X.o0,sp)∈X.cs/\sp[0]?=⇑#[[],.back (.num 1)]
 mk2:∃l,(X.o2,l)∈X.ms/\l[0]?=⇑X.m0/\l[1]?=⇑X.m1/\l[2]?=⇑X.m2
 mk0:∃l,(X.o0,l)∈X.ms/\l[0]?=⇑X.m3
 f1:f.fn=X.o2
 f2:f.spot=0
 f3:f.first=0
 f4:Rk2.DV f.kvs
 f5:f.kvs.length<=100
abbrev MlA (K:L7) (H:Hp) (X:Wd) (ml:L6):Prop:=∃v0 v1 v2 v3,aE K H ml [v0,v1,v2,v3]/\dD K H X.m0 v0/\dD K H X.m1 v1/\dD K H X.m2 v2/\dD K H X.m3 v3
abbrev F6 (K:L7) (t:Adr):L2.Sp:=λvs H Q _=>∃(w:Wr) (wt:L6) (Hd Hb:Hp) (f:Fm) (X:Wd) (nd al ml d mo gl:L6) (gu:List V) (b c z:Int),vs=[↥w.a,↥nd,↥ml,↥d,↥mo]/\Wm t Hd Hb H w wt [(f,X.m0,d)] .non []/\Dt K t Hd w X.fns X.cs X.ms/\NmD K Hd nd al X.kn X.fns X.ws/\MlA K Hd X ml/\aE K Hd mo [.int X.far,↥gl,.int b,.int c,.int z]/\aE K Hd gl gu/\Rk2.Ps (Rk2.RAt Hd) gu X.ts/\0<=z/\z<K21.wide/\WdOk X f/\∀H',Q (.bl true) H'
structure FwA (K:W.Frag) (H:Hp) (os:List Str) (j:Nat) (x:Addr×F2.Fd):Prop where
 w:H x.1=⇑(.lst ((F2.nms x.2).map V.str))
 f:F2.FnAt K H x.2
 ok:FnOk x.2
 nm:os[j]?=⇑x.2.name
 p:x.2.ps.length<=3
def FwA.mono {K:L7} {H H':Hp} {os:List Str} {j:Nat} {x:L6×F2.Fd} (h:FwA K H os j x) (e:aB H H'):FwA K H' os j x:=#[e _ _ h.w,F2.FnAt.mono e h.f,h.ok,h.nm,h.p]
abbrev sp_law (K:L7):Sp:=λvs H Q _=>∃(a:L6) (ns:List Int),vs=[↥a]/\aE K H a (ns.map V.int)/\ns.length<=63/\∀H',Q (.bl true) H'
end
end K38
local macro_rules|`($a>=>$b)=>`(L2.aC $a $b rfl)|`($f<$>$a<*>$b)=>`(@L2.aL _ _ _ _ _ _ _ _ $f $a $b)
local macro_rules|`(~~~$a)=>`(@L2.aK _ _ _ (@L2.aR _ _ _ _ $a))
namespace K38
open PySem L2 K12
section
variable {P:Program} {w:World} {K:L7} {mg:Str->Hl K'} {base:Heap} {t:Adr}
def E6:FnScope ["names"] ["names"] (aS mU):=by walk_at "s"
def tf (T:Txt K mg t):FnOk P w K mg base CX0 1 t.xU t.yl ["names"] (K12.sp_each_once K):=by
 refine T.each_once.F.ok E6 (λvs H Q E h=>?_) (λcdv A outer s H vs Q E hr h=>?_)
 . let#[_,_,rfl,_]:=h;rfl
 . let#[p0,ss,rfl,hS,hl,q]:=h;show#[_,(aJ (@aR _ _ _ _ (dk (zu rfl) 0x0 T.b_list j7 ((dk (E5 rfl) 0x0 T.b_dict tX ((dN (N':=["name"]) (js:=[none]) (by kernel_rfl) rfl (d7 (aA 0)) dH (λ_ _ _ _=>(aY (i:=0) (show(["name"]:List Str).Nodup by decide +kernel) rfl 0x4 (.inr rfl))) (λ_ _ _ _=>cr) (λ_ _ _ _=>(bD (aA 0>=>bZ>=>aD))))>=>aD))>=>aD))) ac),?_];show#[5,p0,rfl,#[_,hS],λp hp=>qK (xs:=ss.map V.str) (by rw[HS]; lia) (λi acc H2=>i<=ss.length/\aB H H2/\H2 p=⇑(.lst acc)/\∃ps:List L6,acc=ps.map V.ref/\Paired (λa (kv:aF×V)=>aG K H2 a [kV kv.1,kv.2]) ps (cS (ss.take i))) #[Hw _,aB.new hp,aI,[],rfl,.nil] ?_ ?_ ?_]
   . rintro i acc H2 hi ⟨hi',s2,h2,ps,rfl,hps⟩;show#[h2,?_,s2.seq hS];have:=Paired.length hps;rw[HS,this];unfold cS;rw[HS,IE]
     lia
   . rintro i x acc H2 hx ⟨hi',s2,h2,ps,rfl,hps⟩;have hi:i<ss.length:=by have:=(HV.mp hx).1;rw[HS] at this;exact this
     rw[Hk] at hx;have hx:V.str ss[i]=x:=by simpa [hi] using hx
     subst hx;show#[5,(by show 2<=sizeLine; decide),λa ha=>?_];have hap:a≠p:=λz=>by rw[z,h2] at ha; cases ha
     have e:(upd H2 a (.tup [V.str ss[i],V.bl true])) p=⇑(.lst (ps.map V.ref)):=by rw[aM hap.symm]; exact h2
     show#[e,hi,?_,aI,ps++[a],by rw[Hq]; rfl,?_]
     . exact(s2\(aB.new ha)).upd hp
     . have e2:cS (ss.take (i+1))=cS (ss.take i)++[(Sum.inr ss[i],V.bl true)]:=by unfold cS;rw[IM,Hq];simp [hi]
       rw[e2];refine Paired.snoc (Paired.mapP hps λb kv z=>Ap ((aB.new ha)<*z) e) ?_;exact aG.of (by rw[aM hap]; exact aI)
   . rintro acc H2 ⟨hi',s2,h2,ps,rfl,hps⟩;have e0:ss.take (ss.map V.str).length=ss:=by rw[HS]; exact IP
     rw[e0] at hps;show#[p,ps,cS ss,rfl,aE.of h2,hps,by unfold cS; rw[HS]; lia,λd hd=>?_];rw[zo];show#[d,cS (onceL ss),rfl,aI,λl hl'=>?_];rw[Gc];exact q l _ ((s2\(aB.new hd)).trans (aB.new hl')) (s2.free ((aB.new hd).free hl')) aI
def Ao:FnScope ["row"] ["row"] (aS nB):=by walk_at "s"
def Ab (T:Txt K mg t):FnOk P w K mg base CX0 1 t.xW t.yn ["row"] (K12.sp_gives K):=by
 refine T.gives.F.ok Ao (λvs H Q E h=>?_) (λcdv A outer s H vs Q E hr h=>?_)
 . let#[_,_,_,_,rfl,_]:=h;rfl
 . let#[r,xs,g,as,rfl,hr,hrow,q]:=h;show#[_,(aJ (@aR _ _ _ _ (@iA _ _ _ _ _ _ _ _ (ao jj (iT K (aA 0)) (iF T.HK) (by with_unfolding_all rfl)) (iT K (aA 0)) eP)) ac),?_];let#[kd,h0,hc]:=Ba hrow;show#[5,r,xs,19,hr,h0,t.rM,giving.map V.str,rfl,.inr (T.HN H),rfl,Dx,5,?_];rcases hc with⟨x,rfl,e,h1⟩|⟨rfl,e⟩
   . exact ah e #[5,r,xs,19,hr,h1,q]
   . exact aa (GQ e) q
def Ai:FnScope ["row"] ["row"] (aS nv):=by walk_at "s"
def Fk (T:Txt K mg t):FnOk P w K mg base CX0 1 t.xS t.yj ["row"] (K12.sp_atoms_of K):=by
 refine T.atoms_of.F.ok Ai (λvs H Q E h=>?_) (λcdv A outer s H vs Q E hr h=>?_)
 . let#[_,_,_,_,rfl,_]:=h;rfl
 . let#[r,xs,g,as,rfl,hr,hrow,hl,q]:=h;show#[_,(aJ (af (ao bB (iT K (aA 0)) ai (ag _)) (~~~(dk p8 0x0 T.b_list j7 ((iT K (aA 0))>=>aD))) ac) (~~~(dN (N':=["place","row"]) (js:=[none,some 0]) (by kernel_rfl) rfl (nO (ae sV (iF T.HJ) (iT K (aA 0)) 0x5)) dH (λ_ _ _ _=>(aY (i:=0) (show(["place","row"]:List Str).Nodup by decide +kernel) rfl 0x4 (.inr rfl))) (λ_ _ _ _=>cr) (λ_ _ _ _=>(iX K (aA 1) (aA 0)))))),?_];let#[kd,h0,hc]:=Bj hrow;show#[5,r,xs,19,hr,h0,13,?_];rcases hc with⟨rfl,p,h3,hp⟩|⟨hne,pl,hk,hpl,hat⟩
   . exact ah (Hf rfl) #[5,r,xs,19,hr,h3,p,as,rfl,.inr hp,λl hl=>q l _ (aB.new hl) hl aI]
   . refine aa (λh=>hne (V.str.inj (bG h))) ?_;show#[5,r,xs,19,hr,h0,t.rO,tabl,19,T.HQ,hk,λa ha=>?_];show#[a,rfl,#[_,ha],λp hp=>oU (xs:=pl.map V.int) (by rw[HS]; lia) (λi acc H2=>acc=as.take i/\H2=upd H p (.lst acc)) #[7] ?_ ?_ ?_]
     . rintro i acc H2 hi ⟨rfl,rfl⟩;show#[aI,by rw[IE]; lia,(aB.new hp)<*ha]
     . rintro i x acc H2 hx ⟨rfl,rfl⟩;have hi:i<as.length:=by
         have:=(HV.mp hx).1;rw[HS] at this
         lia
       let#[p1,hp1,hp2]:=hat i as[i] (by simp [hi]);rw[Hk,hp1] at hx;have hx:V.int p1=x:=↑hx
       subst hx;show#[21,r,xs,19,(aB.new hp)<*hr,hp2,aI,?_,et];rw[IM];simp [hi]
     . rintro acc H2 ⟨rfl,rfl⟩;have e:(as.take (pl.map V.int).length)=as:=by rw[HS,hpl]; exact IP
       exact q p _ (aB.new hp) hp (by rw[aI,e])
def GL:FnScope ["row"] ["row"] (aS nX):=by walk_at "s"
def G8 (T:Txt K mg t):FnOk P w K mg base CX0 2 t.xz t.zD ["row"] (K12.sp_reads K):=by
 have Qq:=tf (P:=P) (w:=w) (base:=base) T;have QE:=Fk (P:=P) (w:=w) (base:=base) T;refine T.reads.F.ok GL (λvs H Q E h=>?_) (λcdv A outer s H vs Q E hr h=>?_)
 . let#[_,_,_,_,rfl,_]:=h;rfl
 . let#[r,xs,g,as,rfl,hrw,hrow,hl,hat,q]:=h;show#[_,(aJ (@aR _ _ _ _ (cD T.each_once Qq hr ((dN (N':=["atom"]) (js:=[none]) (by kernel_rfl) rfl (d7 (cD T.atoms_of QE hr (aA 0>=>aD))) dH (λ_ _ _ _=>(aY (i:=0) (show(["atom"]:List Str).Nodup by decide +kernel) rfl 0x4 (.inr rfl))) (λ_ _ _ _=>(GY (cM (az (show aw _ (.builtin "isinstance") (C6 K) from kW) 0x0 T.b_isinstance dh (aA 0>=>(gB (v:=V.ty "str") rfl T.b_str uk rfl)>=>aD))))) (λ_ _ _ _=>(aA 0)))>=>aD))) ac),?_];show#[5,r,xs,g,as,rfl,hrw,hrow,hl,λl0 H1 s1 n1 e1=>?_];show#[l0,rfl,#[_,aE.of e1],λp hp=>qK (xs:=as) ∅ (λi acc H2=>acc=(dY (as.take i)).map V.str/\H2=upd H1 p (.lst acc)) #[7] ?_ ?_ ?_]
   . rintro i acc H2 hi ⟨rfl,rfl⟩;show#[aI,?_,(aB.new hp).seq (aE.of e1)];have:=pj (as.take i);rw[HS];rw[IE] at this
     lia
   . rintro i x acc H2 hx ⟨rfl,rfl⟩;have hi:i<as.length:=(HV.mp hx).1;have e2:dY (as.take (i+1))=dY (as.take i)++dY [x]:=by rw[IM,hx,E1];rfl
     rcases hat x (IA hx) with⟨s,rfl,hn⟩|⟨z,rfl⟩
     . show#[40,true,rfl,.str _,13,?_];show#[5,aI,?_,et];rw[e2,Hq];rfl
     . show#[40,false,rfl,.int _,13,?_];show#[?_,?_]
       . rw[e2,CZ,IQ]
       . rfl
   . rintro acc H2 ⟨rfl,rfl⟩;rw[IP];have hle:=pj as;show#[p,dY as,rfl,aE.of aI,∅,λl H3 s3 n3 e3=>q l H3 ((s1\(aB.new hp)).trans s3) (s1.free ((aB.new hp).free n3)) e3]
def nQ:FnScope ["function","found","row","given"] ["function"] (aS jX):=by walk_at "s"
def AS (T:Txt K mg t):FnOk P w K mg base CX0 3 t.xy t.zC ["function"] (K12.sp_names_of K):=by
 have Qq:=tf (P:=P) (w:=w) (base:=base) T;have QF:=Ab (P:=P) (w:=w) (base:=base) T;have QG:=G8 (P:=P) (w:=w) (base:=base) T;refine T.names_of.F.ok nQ (λvs H Q E h=>?_) (λcdv A outer s H vs Q E hr h=>?_)
 . let#[_,_,_,rfl,_]:=h;rfl
 . skip
   refine lx ?_;intro XX;refine(let W2:TS:=_; have hW2:aO XX ((aP jX).drop 2) W2:=(~~~(cD T.each_once Qq hr (aA 1>=>aD))); ?_);refine(let W1:TS:=_; have hW1:aO XX ((aP jX).drop 1) W1:=(aJ (bu PassesOwn.never rfl (nO (iT K (aA 0))) (aY (i:=2) nQ.nd rfl 0x4) (aJ (pS 3 nQ.nd (cD T.gives QF hr (aA 2>=>aD))) (aJ (af (eQ (i0 (aA 3))) (@aK _ _ _ (@bW _ _ _ _ (cU Ht IK IL g9 (aA 1) (aA 3>=>aD)) 0x0)) ac) (@aK _ _ _ (@bW _ _ _ _ (cU Ht JF JG qk (aA 1) ((cD T.reads QG hr (aA 2>=>aD))>=>aD)) 0x0))))) @hW2); ?_);let#[f,ps,ds,rfl,hf,q]:=h;show#[_,(aJ (pS 1 nQ.nd (dk p8 0x0 T.b_list j7 ((iT K (aA 0))>=>aD))) @hW1),?_];let#[n,b,pp,rr,hF,hP,hR]:=hf.fn;show#[5,f,35,hF,rfl,pp,5,.inr hP,λl hl=>?_];show#[5,f,35,(aB.new hl)<*hF,rfl,?_];show#[rr,rfl,#[_,(aB.new hl)<*hR],EN (xs:=ds.map λd=>V.ref d.r) (λi σ H2=>aB H H2/\∃v1 v2 fs,σ=[⇑↥f,⇑↥l,v1,v2]/\H2 l=⇑(.lst (List.map V.str fs))/\onceL fs=onceL (ps++(ds.take i).flatMap rowStrs)/\fs.length<=100+11 * i) #[aB.new hl,4,ps,rfl,aI,by simp,by have:=hf.pl; lia] ?_ ?_ ?_]
   . rintro i σ H2 hi ⟨s2,_⟩;exact s2<*hR
   . rintro i x σ H2 hx ⟨s2,v1,v2,fs,rfl,h2,ho,hlen⟩;have hi:i<ds.length:=by have:=(HV.mp hx).1;rw[HS] at this;exact this
     rw[Hk] at hx;have hx:V.ref ds[i].r=x:=by simpa [hi] using hx
     subst hx;have hd:=hf.rows ds[i] (IT hi);have hds:=hf.dl;have ef:(ds.take (i+1)).flatMap rowStrs=(ds.take i).flatMap rowStrs++rowStrs ds[i]:=by rw[IM,IZ];simp [hi]
     have hol:=Ej (dY ds[i].as);have hsl:=pj ds[i].as;have hal:=hd.len;let#[xs,hr1,hr2]:=(hd*>s2).row;show#[5,ds[i].r,xs,9,hr1,hr2,?_];show#[21,?_];cases hg:ds[i].gx with
     | none =>
       refine eg #[5,.inl #[6,aE.of h2],5,ds[i].r,xs,9,hr1,hr2,hd.len,hd.ats,λl4 H4 s4 n4 e4=>?_];show#[l,l4,19,s4 _ _ h2,e4,gD (by rw[HS,HS]; lia),?_];show#[(s2\s4).upd hl,4,fs++[]++onceL (dY ds[i].as),rfl,(by rw[aI,IQ,Hq]),?_,(by simp only[HZ,JS]; lia)];rw[vV ho,ef,Ib];unfold rowStrs;rw[hg];rfl
     | some x =>
       refine jq #[5,.inl #[6,aE.of h2],5,l,19,h2,lt_line' (by rw[HS]; lia),?_];have s3:aB H (upd H2 l (.lst (List.map V.str fs++[V.str x]))):=s2.upd hl;let#[xs',hr1',hr2']:=(hd*>s3).row;show#[5,.inl #[6,aE.of aI],5,ds[i].r,xs',9,hr1',hr2',hd.len,hd.ats,λl4 H4 s4 n4 e4=>?_];show#[l,l4,19,s4 _ _ aI,e4,gD (by simp only[HZ,HS,II,JS]; lia),?_];show#[(s3\s4).upd hl,4,fs++[x]++onceL (dY ds[i].as),rfl,(by rw[aI,Hq,Hq]; rfl),?_,(by simp only[HZ,II,JS]; lia)];rw[vV ho,ef,Ib];unfold rowStrs;rw[hg];rfl
   . rintro σ H2 ⟨s2,v1,v2,fs,rfl,h2,ho,hlen⟩;rw[HS,IP] at ho;rw[HS] at hlen;have hds:=hf.dl;show#[5,l,fs,rfl,aE.of h2,∅,λl3 H3 s3 n3 e3=>q l3 H3 (s2\s3) (s2.free n3) ?_];rw[e3,ho];rfl
end
end K38
namespace K38
open PySem L2 K13
section
variable {P:Program} {w:World} {K:L7} {mg:Str->Hl K'} {base:Heap} {t:Adr}
def j':FnScope ["rows","opened","begins","k","row"] ["rows"] (aS jx):=by walk_at "s"
def EO (T:Txt K mg t):FnOk P w K mg base CX0 1 t.xT t.yk ["rows"] (K13.sp_begins_of K):=by
 refine T.begins_of.F.ok j' (λvs H Q E h=>?_) (λcdv A outer s H vs Q E hr h=>?_)
 . let#[_,_,rfl,_]:=h;rfl
 . skip
   refine lx ?_;intro XX;refine(let W2:TS:=_; have hW2:aO XX ((aP jx).drop 2) W2:=(aJ (bu PassesOwn.never rfl (wD rfl T.b_enumerate (aA 0>=>aD)) (cx rfl (bK (aY (i:=3) j'.nd rfl 0x4) (bK (aY (i:=4) j'.nd rfl 0x4) ck))) (@aK _ _ _ (af (ao jj (iT K (aA 4)) (bD (ai>=>ai>=>aD)) (by with_unfolding_all rfl)) (@aK _ _ _ (@bW _ _ _ _ (cU Ht IK IL g9 (aA 1) (aA 3>=>aD)) 0x0)) (@aK _ _ _ (af (ao bB (iT K (aA 4)) ai (ag _)) (@aK _ _ _ (dQ (bY hr.units) (aA 2) (aA 3) (iY K (aA 1) (eh fE aH)) 0x0)) (@aK _ _ _ (af (ao bB (iT K (aA 4)) ai (ag _)) (@aK _ _ _ (dQ (bY hr.units) (aA 2) (aA 3) (qt Ht PySem.F.slot_list_pop PySem.F.type_list_pop tO (aA 1)) 0x0)) ac))))))) (~~~(aA 2))); ?_);let#[a,ks,rfl,hR,w,hn,q]:=h;show#[_,(aJ (pS 1 j'.nd (bI aD)) (aJ (pS 2 j'.nd dy) @hW2)),?_];show#[cO,λol hol=>λd hd=>?_];let#[rs,e1,e2,e3]:=hR.ex;have hdo:d≠ol:=λz=>by rw[z,aI] at hd; cases hd
   have s0:aB H (upd (upd H ol (.lst [])) d (.dK [])):=(aB.new hol)\(aB.new hd);have hd0:H d=none:=(aB.new hol).free hd;show#[5,a,rfl,#[_,s0<*e1],uh (xs:=rs.map V.ref) (λi σ H2=>i<=ks.length/\aB H H2/\∃v3 v4,σ=[⇑↥a,⇑↥ol,⇑↥d,v3,v4]/\H2 ol=⇑(.lst (dw ks i))/\H2 d=⇑(.dK (bg ks i))) #[Hw _,s0,9,by rw[aM hdo.symm]; exact aI,aI] ?_ ?_ ?_]
   . rintro i σ H2 hi ⟨_,s2,_⟩;exact s2<*e1
   . rintro i x σ H2 b hx ⟨hi',s2,v3,v4,rfl,ho,hg⟩ hb;have hi:i<rs.length:=by have:=(HV.mp hx).1;rw[HS] at this;exact this
     rw[Hk] at hx;have hx:V.ref rs[i]=x:=by simpa [hi] using hx
     subst hx;let#[rest,hrow]:=e3 i rs[i] (by simp [hi]);have s3:aB H (upd H2 b (.tup [.int i,.ref rs[i]])):=s2\(aB.new hb);have ho3:=aB.new (o:=.tup [.int i,.ref rs[i]]) hb _ _ ho;have hg3:=aB.new (o:=.tup [.int i,.ref rs[i]]) hb _ _ hg;have sl:=Cm ks i;have bl:=qW ks i;show#[b,5,aG.of aI,403,?_];show#[5,rs[i],35,s3<*hrow,bU,bL,λtw htw=>#[tw,[V.str "if",V.str "while"],rfl,.inr (aG.of aI),29,?_]];have s4:=s3\(aB.new (o:=.tup [V.str "if",V.str "while"]) htw);have ho4:=aB.new (o:=.tup [V.str "if",V.str "while"]) htw _ _ ho3;have hg4:=aB.new (o:=.tup [V.str "if",V.str "while"]) htw _ _ hg3;by_cases hO:isO (kd ks i)=true
     . refine ah ((inO _)\hO) ?_;show#[5,.inl #[6,aE.of ho4],5,ol,19,ho4,lt_line' ∅,?_];show#[∅,s4.upd hol,9,?_,?_]
       . rw[aI];have:stk ks (i+1)=i::stk ks i:=by rw[de]; unfold push; rw[He hO]
         unfold dw;rw[this,List.reverse_cons,Hq];rfl
       . rw[aM hdo,vK (Ch hO)];exact hg4
     refine aa (λz=>hO ((inO _).symm.trans z)) ?_;show#[5,rs[i],35,s4<*hrow,bU,13,?_];by_cases h1:kd ks i="else"
     . refine ah (Hf (Hr V.str h1)) ?_;have hE:isE (kd ks i)=true:=by rw[h1]; decide +kernel
       obtain⟨t,r,ht⟩:∃t r,stk ks i=t::r:=by
         cases z:stk ks i with
         | nil=>exact absurd z (w.open_ i ∅ hE)
         | cons t r=>show#[t,r,rfl]
       let#[q1,q2,q3]:=t8 ht;show#[21,ol,35,aE.of ho4,q1,21,d,5,ci.k (k:=Sum.inl (i:Int)) hg4 (lt_line' ∅),?_];show#[∅,s4.upd hd0,9,?_,?_]
       . rw[aM hdo.symm];have:stk ks (i+1)=stk ks i:=by rw[de]; unfold push; rw[HX hO,HX (by rw[h1]; exact Fy)]
         unfold dw;rw[this];exact ho4
       . rw[aI,mj #[hE,by rw[ht]; rfl]]
     refine aa (λz=>h1 (V.str.inj (bG z))) ?_;show#[5,rs[i],35,s4<*hrow,bU,13,?_];by_cases h2:kd ks i="end"
     . refine ah (Hf (Hr V.str h2)) ?_;have hE:isE (kd ks i)=true:=by rw[h2]; decide +kernel
       obtain⟨t,r,ht⟩:∃t r,stk ks i=t::r:=by
         cases z:stk ks i with
         | nil=>exact absurd z (w.open_ i ∅ hE)
         | cons t r=>show#[t,r,rfl]
       let#[q1,q2,q3]:=t8 ht;show#[5,.inl #[6,aE.of ho4],ol,19,ho4,q2,21,d,5,ci.k (k:=Sum.inl (i:Int)) (by rw[aM hdo]; exact hg4) (lt_line' ∅),?_];show#[∅,(s4.upd hol).upd hd0,9,?_,?_]
       . rw[aM hdo.symm,aI,q3];have:stk ks (i+1)=r:=by rw[de]; unfold push; rw[HX hO,He h2,ht]; rfl
         unfold dw;rw[this]
       . rw[aI,mj #[hE,by rw[ht]; rfl]]
     refine aa (λz=>h2 (V.str.inj (bG z))) ?_;show#[∅,s4,9,?_,?_]
     . have:stk ks (i+1)=stk ks i:=by rw[de]; unfold push; rw[HX hO,HX h2]
       unfold dw;rw[this];exact ho4
     . rw[vK (Aw h1 h2)];exact hg4
   . rintro σ H2 ⟨_,s2,v3,v4,rfl,ho,hg⟩;rw[HS,e2] at hg;show#[5,q d H2 s2 hd0 hg]
def gv:FnScope ["rows","begins","ends","k","begin","behind","follower","kind"] ["rows","begins"] (aS iy):=by walk_at "s"
def Ad (T:Txt K mg t):FnOk P w K mg base CX0 1 t.xV t.ym ["rows","begins"] (K13.sp_firsts_behind K):=by
 refine T.firsts_behind.F.ok gv (λvs H Q E h=>?_) (λcdv A outer s H vs Q E hr h=>?_)
 . let#[_,_,_,rfl,_]:=h;rfl
 . skip
   refine lx ?_;intro XX;refine(let W4:TS:=_; have hW4:aO XX ((aP iy).drop 4) W4:=(~~~(pv 5)); ?_);refine(let W2:TS:=_; have hW2:aO XX ((aP iy).drop 2) W2:=(aJ (pS 5 gv.nd (uP<$>(bI (eP>=>aD))<*>(az ix 0x0 T.b_len bV (pv 0>=>aD)))) (aJ (bu PassesOwn.never rfl (zY rfl T.b_range ((fq<$>(az ix 0x0 T.b_len bV (pv 0>=>aD))<*>aH)>=>eh fE aH>=>eh fE aH>=>aD)) (aY (i:=3) gv.nd rfl 0x4) (aJ (pS 6 gv.nd (bc<$>pv 3<*>aH)) (aJ (pS 7 gv.nd (ae eY (ae eY (pv 0) (pv 6) 0x5) aH 0x5)) (@aK _ _ _ (af (jO bB (pv 7) ai (ag _)) (@aK _ _ _ (gS (ae gk (pv 5) (eE (bY hr.units) (pv 2) (eE (bY hr.units) (pv 1) (pv 6) 0x5) 0x5) 0x5) (kF (pv 5) (pv 3) kZ))) (@aK _ _ _ (af (@PW.pt _ _ _ (nI (jO bB (pv 7) ai (ag _)) (ll (jO bB (ae eY (ae eY (pv 0) (eE (bY hr.units) (pv 1) (pv 6) 0x5) 0x5) aH 0x5) ai (ag _))))) (@aK _ _ _ (gS (eE (bY hr.units) (pv 1) (pv 6) 0x5) (kF (pv 5) (pv 3) kZ))) (@aK _ _ _ (af (jO bB (pv 7) ai (ag _)) (@aK _ _ _ (gS (ae gk (pv 5) (pv 6) 0x5) (kF (pv 5) (pv 3) kZ))) (@aK _ _ _ (gS (pv 6) (kF (pv 5) (pv 3) kZ)))))))))))) @hW4)); ?_);let#[a,d,ks,rfl,hR,w,hn,hd,q]:=h;show#[_,(aJ (pS 2 gv.nd dy) (aJ (bu PassesOwn.never rfl (vg (pv 1)) (cx rfl (bK (aY (i:=3) gv.nd rfl 0x4) (bK (aY (i:=4) gv.nd rfl 0x4) ck))) (@aK _ _ _ (dQ (bY hr.units) (pv 2) (pv 4) (pv 3) 0x0))) @hW2)),?_];refine λed hed=>?_;have hde:d≠ed:=λz=>by rw[<- z,hd] at hed; cases hed
   show#[5,d,bg ks ks.length,rfl,.inl #[aB.new hed _ _ hd,λo=>?_]];have sF:aB (upd H d (.frz o (.dK (bg ks ks.length)))) (upd (upd H ed (.dK [])) d (.frz o (.dK (bg ks ks.length)))):=λb u h=>by
     by_cases hb:b=d
     . subst hb;rw[aI] at h ⊢;exact h
     . rw[aM hb] at h ⊢;rw[aM (λz=>by rw[z,hed] at h; cases h)];exact h
   have hF:(upd H d (.frz o (.dK (bg ks ks.length)))) d=⇑(.frz o (.dK (bg ks ks.length))):=aI;have hedF:(upd H d (.frz o (.dK (bg ks ks.length)))) ed=none:=by rw[aM hde.symm]; exact hed
   have hRF:RowsAt K (upd H d (.frz o (.dK (bg ks ks.length)))) a ks:=hR.frz hd;have qF:∀l H',aB (upd H d (.frz o (.dK (bg ks ks.length)))) H'->(upd H d (.frz o (.dK (bg ks ks.length)))) l=none->tW H' l ks->Q ↥l H':=λl H' h1 h2 h3=>q l o H' h1 (by rw[aM (λz=>by rw[z,hF] at h2; cases h2)] at h2; exact h2) h3;generalize upd H d (.frz o (.dK (bg ks ks.length)))=HF at sF hF hedF hRF qF;have bl:=qW ks ks.length;have pl:=qr ks ks.length;refine uE (λi σ H2=>i<=(bg ks ks.length).length/\aB HF H2/\∃v3 v4 eds,σ=[⇑↥a,⇑↥d,⇑↥ed,v3,v4,none,none,none]/\H2 ed=⇑(.dK eds)/\eds.length<=i/\∀b:Nat,au eds (Sum.inl (b:Int):aF)=(eN ((bP ks ks.length).take i) b).map λ(m:Nat)=>V.int (m:Int)) #[Hw _,sF,4,[],rfl,by rw[aM hde.symm]; exact aI,HY _,λb=>rfl] ?_ ?_ ?_
   . rintro i σ H2 hi ⟨_,s2,_⟩;exact s2 _ _ hF
   . rintro i kv σ H2 b hkv ⟨hi,s2,v3,v4,eds,rfl,he,hel,hv⟩ hb;let#[p,hp,rfl]:=vk hkv;have hlt:=(HV.mp hkv).1;have he3:=aB.new (o:=.tup [V.int (p.1:Int),V.int (p.2:Int)]) hb _ _ he;show#[b,5,aG.of aI,403,?_];show#[85,ed,5,ci.k (k:=Sum.inl (p.2:Int)) he3 (lt_line' ∅),?_];show#[hlt,(s2\(aB.new hb)).upd hedF,17,aI,?_,λb'=>?_]
     . exact Hu (dL _ _ _) ∅
     . rw[cf,IM,hp];show _=(eN ((bP ks ks.length).take i++[p]) b').map _;rw[wB,hv b'];by_cases h:p.2=b'
       . rw[He h,He (by rw[h])];rfl
       . rw[HX h,HX (λz=>h (by have:(b':Int)=(p.2:Int):=Sum.inl.inj z; lia))]
   . rintro σ H2 ⟨_,s2,v3,v4,eds,rfl,he,hel,hv⟩;have hv:∀b:Nat,au eds (Sum.inl (b:Int):aF)=(eN (bP ks ks.length) b).map λ(m:Nat)=>V.int (m:Int):=λb=>by rw[hv b];unfold bg ft;rw[HS,IP]
     let#[rs,r1,r2,r3]:=hRF.ex;have rl:(rs.map V.ref).length=ks.length:=by rw[HS,r2]
     show#[eu,λnl hnl=>#[5,a,5,.inr ((s2\(aB.new hnl))<*r1),nl,19,aI,∅,by rw[rl]; lia,by rw[rl]; exact gD (by simp; lia),λbl hbl=>?_]];have s3:=(s2\(aB.new (o:=.lst [V.non]) hnl)).trans (aB.new (o:=.lst (List.replicate (((rs.map V.ref).length:Int).toNat) [V.non]).flatten) hbl);have hbF:HF bl=none:=s2.free ((aB.new hnl).free hbl);have hbe:bl≠ed:=λz=>by have:=(aB.new hnl).free hbl;rw[z,he] at this;cases this
     have he3:=(aB.new (o:=.lst (List.replicate (((rs.map V.ref).length:Int).toNat) [V.non]).flatten) hbl) _ _ ((aB.new (o:=.lst [V.non]) hnl) _ _ he);show#[5,a,5,.inr (s3<*r1),309,(ks.length:Int) - 2,-1,by rw[rl],#[∅,∅,∅,∅],?_];have hnn:(((ks.length:Int) - 2) - -1).toNat=ks.length - 1:=by lia
     rw[hnn];refine EW (λi σ H4=>aB HF H4/\∃v3 v4 v6 v7 bs,σ=[⇑↥a,⇑↥d,⇑↥ed,v3,v4,⇑↥bl,v6,v7]/\H4 ed=⇑(.dK eds)/\H4 bl=⇑(.lst bs)/\bs.length=ks.length/\∀k,k+1<ks.length->ks.length - 1 - i<=k->∃r:Nat,Beh ks k r/\bs[k]?=⇑(.int (r:Int))) #[s3,65,he3,aI,by rw[rl]; exact Ez _,λk h1 h2=>by lia] ?_ ?_
     . rintro i σ H4 hi ⟨s4,v3,v4,v6,v7,bs,rfl,e4,b4,l4,hb4⟩;obtain⟨k,hk⟩:∃k:Nat,k+2+i=ks.length:=#[ks.length - 2 - i,∅]
       have ek:((ks.length:Int) - 2) - (i:Int)=(k:Int):=by lia
       rw[ek];have hR4:=hRF*>s4;have old:∀j,j+1<ks.length->k<j->∃r:Nat,Beh ks j r/\bs[j]?=⇑(.int (r:Int)):=λj h1 h2=>hb4 j h1 ∅;have fin:∀(r:Nat) (v3 v4 v6 v7:Hl V),Beh ks k r->aB HF (upd H4 bl (.lst (bs.set k (.int (r:Int)))))/\∃v3' v4' v6' v7' bs',([⇑↥a,⇑↥d,⇑↥ed,v3,v4,⇑↥bl,v6,v7]:St)=[⇑↥a,⇑↥d,⇑↥ed,v3',v4',⇑↥bl,v6',v7']/\(upd H4 bl (.lst (bs.set k (.int (r:Int))))) ed=⇑(.dK eds)/\(upd H4 bl (.lst (bs.set k (.int (r:Int))))) bl=⇑(.lst bs')/\bs'.length=ks.length/\∀j,j+1<ks.length->ks.length - 1 - (i+1)<=j->∃r:Nat,Beh ks j r/\bs'[j]?=⇑(.int (r:Int)):=λr v3 v4 v6 v7 hr=>by
         show#[s4.upd hbF,65,by rw[aM hbe.symm]; exact e4,aI,by rw[Je]; exact l4,λj h1 h2=>?_];by_cases hj:j=k
         . subst hj;show#[r,hr,by rw[Jh ∅]]
         . let#[r',q1,q2]:=old j h1 ∅;show#[r',q1,by rw[JB (λz=>hj z.symm)]; exact q2]
       have hix:cb bs.length (k:Int)=⇑k:=by unfold cb;rw[He ∅,He ∅,JI]
       have at_bs:∀j r:Nat,bs[j]?=⇑(.int (r:Int))->aq bs (j:Int)=⇑(.int (r:Int)):=λj r h=>bv h;show#[83,?_];show fw 6 (V.int ((k:Int)+1)) _ _ _;rw[show((k:Int)+1)=((k+1:Nat):Int) by lia];show#[21,ixk hR4 ∅ ∅ ?_];show#[45,?_];have aj:isE (kd ks (k+1))=true->∃b,(stk ks (k+1)).head?=⇑b:=λh=>by
         cases z:stk ks (k+1) with
         | nil=>exact absurd z (w.open_ (k+1) ∅ h)
         | cons b r=>show#[b,rfl]
       have fz:Rd H4 d (.dK (bg ks ks.length)):=.inr #[o,s4 _ _ hF];by_cases h1:kd ks (k+1)="else"
       . refine ah (Hf (Hr V.str h1)) ?_;have hE:isE (kd ks (k+1))=true:=by rw[h1]; decide +kernel
         let#[b,hb]:=aj hE;have hbo:=qz (#[hE,hb]:cj ks b (k+1));let#[e,hEn]:=vD w ∅ hbo.2;have h5:k+1<=e:=vQ hEn #[hE,hb];have h6:e+1<ks.length:=by
           rcases Ig (e+1) ks.length with z|z
           . exact z
           . have:=w.last e (by have:=hEn.2.1; lia);rw[hEn.2.2.1] at this;exact absurd this.symm wU.2
         let#[r,hr1,hr2]:=old e h6 ∅;have g1:dA H4 d (.int ((k+1:Nat):Int)) ⇑(.int (b:Int)):=.inl #[_,Sum.inl ((k+1:Nat):Int),fz,rfl,(wC ks.length ∅ #[hE,hb]).symm];have g2:dA H4 ed (.int (b:Int)) ⇑(.int (e:Int)):=.inl #[_,Sum.inl (b:Int),.inl e4,rfl,by rw[hv b,Bl hEn]; rfl];show#[341,d,5,g1,ed,5,g2,bl,35,aE.of b4,at_bs e r hr2,21,bl,35,b4,hix,fin r _ _ _ _ (.els h1 hb hEn hr1)]
       refine aa (λz=>h1 (V.str.inj (bG z))) ?_;show#[45,?_];by_cases h2:kd ks (k+1)="end"
       . have hE:isE (kd ks (k+1))=true:=by rw[h2]; decide +kernel
         let#[b,hb]:=aj hE;have hbo:=qz (#[hE,hb]:cj ks b (k+1));have g1:dA H4 d (.int ((k+1:Nat):Int)) ⇑(.int (b:Int)):=.inl #[_,Sum.inl ((k+1:Nat):Int),fz,rfl,(wC ks.length ∅ #[hE,hb]).symm];refine ah (Hf (Hr V.str h2)) ?_;show#[85,d,5,g1,ixk hR4 ∅ ∅ #[13,?_]];by_cases h3:kd ks b="while"
         . refine ah (Hf (Hr V.str h3)) ?_;show#[21,d,5,g1,21,bl,35,b4,hix,fin b _ _ _ _ (.whl h2 hb h3)]
         . refine aa (λz=>h3 (V.str.inj (bG z))) ?_;show#[45,ah (Hf (Hr V.str h2)) ?_];have h6:k+1+1<ks.length:=by
             rcases Ig (k+1+1) ks.length with z|z
             . exact z
             . have:=w.last (k+1) ∅;rw[h2] at this;exact absurd this.symm wU.2
           let#[r,hr1,hr2]:=old (k+1) h6 ∅;show#[21,bl,35,aE.of b4,at_bs (k+1) r hr2,21,bl,35,b4,hix,fin r _ _ _ _ (.fin h2 hb h3 hr1)]
       . refine aa (λz=>h2 (V.str.inj (bG z))) (eg ?_);show#[45,aa (λz=>h2 (V.str.inj (bG z))) ?_];show#[85,bl,35,b4,hix,fin (k+1) _ _ _ _ (.oth h1 h2)]
     . rintro σ H4 ⟨s4,v3,v4,v6,v7,bs,rfl,e4,b4,l4,hb4⟩;show#[5,qF bl H4 s4 hbF #[bs,b4,l4,λk h1=>hb4 k h1 ∅]]
def gF:FnScope ["rows","begins","behind","turns","k","begin","found","row"] ["rows"] (aS iG):=by walk_at "s"
def Br (T:Txt K mg t):FnOk P w K mg base CX0 2 t.yD t.zH ["rows"] (K13.sp_ways K):=by
 have QH:=EO (P:=P) (w:=w) (base:=base) T;have QI:=Ad (P:=P) (w:=w) (base:=base) T;refine T.ways.F.ok gF (λvs H Q E h=>?_) (λcdv A outer s H vs Q E hr h=>?_)
 . let#[_,_,rfl,_]:=h;rfl
 . skip
   refine lx ?_;intro XX;refine(let W6:TS:=_; have hW6:aO XX ((aP iG).drop 6) W6:=(~~~(pv 6)); ?_);refine(let W4:TS:=_; have hW4:aO XX ((aP iG).drop 4) W4:=(aJ (pS 6 gF.nd (bI aD)) (aJ (bu PassesOwn.never rfl (wD rfl T.b_enumerate (pv 0>=>aD)) (cx rfl (bK (aY (i:=4) gF.nd rfl 0x4) (bK (aY (i:=7) gF.nd rfl 0x4) ck))) (@aK _ _ _ (af (jO jj (ae eY (pv 7) aH 0x5) (bD (ai>=>ai>=>aD)) (by with_unfolding_all rfl)) (@aK _ _ _ (@bW _ _ _ _ (cU Ht IK IL jD (pv 6) (eP>=>aD)) 0x0)) (@aK _ _ _ (af (jO bB (ae eY (pv 7) aH 0x5) ai (ag _)) (@aK _ _ _ (@bW _ _ _ _ (cU Ht IK IL jD (pv 6) (bD aD>=>aD)) 0x0)) (@aK _ _ _ (af (eQ (BD (bY hr.units) (pv 4) (pv 3))) (@aK _ _ _ (@bW _ _ _ _ (cU Ht IK IL jD (pv 6) ((bD ((ae gk (pv 2) (pv 4) 0x5)>=>(ae gk (pv 2) (eE (bY hr.units) (pv 3) (pv 4) 0x5) 0x5)>=>aD))>=>aD)) 0x0)) (@aK _ _ _ (@bW _ _ _ _ (cU Ht IK IL jD (pv 6) ((bD ((ae gk (pv 2) (pv 4) 0x5)>=>aD))>=>aD)) 0x0))))))))) @hW6)); ?_);refine(let W2:TS:=_; have hW2:aO XX ((aP iG).drop 2) W2:=(aJ (pS 3 gF.nd dy) (aJ (bu PassesOwn.never rfl (vg (pv 1)) (cx rfl (bK (aY (i:=4) gF.nd rfl 0x4) (bK (aY (i:=5) gF.nd rfl 0x4) ck))) (@aK _ _ _ (@bW _ _ _ _ (Cv (pv 3) (pv 5) (pv 4) #[31]) 0x0))) @hW4)); ?_);let#[a,ks,rfl,hR,w,hn,q]:=h;show#[_,(aJ (pS 1 gF.nd (cD T.begins_of QH hr (pv 0>=>aD))) (aJ (pS 2 gF.nd (cD T.firsts_behind QI hr (pv 0>=>pv 1>=>aD))) @hW2)),?_];show#[5,a,ks,rfl,hR,w,hn,λd H1 s1 n1 e1=>?_];show#[21,a,d,ks,rfl,hR*>s1,w,hn,e1,λl o H2 s2 n2 hB=>?_];have s02:aB H H2:=(s1.upd n1)\s2;have hdF:H2 d=⇑(.frz o (.dK (bg ks ks.length))):=s2 _ _ aI;have hl0:H l=none:=s1.free n2;refine λtd htd=>?_;have bl:=qW ks ks.length;let#[bs,hb1,hb2,hb3]:=hB;show#[5,d,bg ks ks.length,rfl,.inr #[o,aB.new htd _ _ hdF,?_]];refine uE (λi σ H3=>i<=(bg ks ks.length).length/\aB H2 H3/\∃v4 v5 tds,σ=[⇑↥a,⇑↥d,⇑↥l,⇑↥td,v4,v5,none,none]/\H3 td=⇑(.dK tds)/\tds.length<=i/\∀b:Nat,au tds (Sum.inl (b:Int):aF)=(cT ((bP ks ks.length).take i) b).map λ(m:Nat)=>V.int (m:Int)) #[Hw _,aB.new htd,4,[],rfl,aI,HY _,λb=>rfl] ?_ ?_ ?_
   . rintro i σ H3 hi ⟨_,s3,_⟩;exact s3 _ _ hdF
   . rintro i kv σ H3 b hkv ⟨hi,s3,v4,v5,tds,rfl,he,hel,hv⟩ hb;let#[p,hp,rfl]:=vk hkv;have hlt:=(HV.mp hkv).1;have he3:=aB.new (o:=.tup [V.int (p.1:Int),V.int (p.2:Int)]) hb _ _ he;show#[b,5,aG.of aI,403,?_];have tk:∀b',cT ((bP ks ks.length).take (i+1)) b'=if(cT ((bP ks ks.length).take i) b').isSome=true then cT ((bP ks ks.length).take i) b' else if p.2=b' then ⇑p.1 else none:=λb'=>by rw[IM,hp];exact sh _ p b'
     show#[5,td,rfl,.inl #[tds,.inl he3],21,tds,Sum.inl (p.2:Int),he3,rfl,lt_line' ∅,λv hv'=>?_,λhv'=>?_]
     . show#[hlt,s3\(aB.new hb),4,tds,rfl,he3,∅,λb'=>?_];rw[hv b',tk b'];cases z:cT ((bP ks ks.length).take i) b' with
       | some m=>rfl
       | none =>
         rw[HX (show ¬ (none:Hl Nat).isSome=true by decide),HX];intro h;rw[h,hv b',z] at hv';cases hv'
     . show#[hlt,(s3\(aB.new hb)).upd htd,17,aI,Hu (dL _ _ _) ∅,λb'=>?_];rw[cf,tk b'];by_cases h:p.2=b'
       . subst h;have z:cT ((bP ks ks.length).take i) p.2=none:=by
           rw[hv p.2] at hv';cases y:cT ((bP ks ks.length).take i) p.2 with
           | none=>rfl
           | some m=>rw[y] at hv'; cases hv'
         rw[He rfl,z,HX (show ¬ (none:Hl Nat).isSome=true by decide),He rfl];rfl
       . rw[HX (λz=>h (by have:(b':Int)=(p.2:Int):=Sum.inl.inj z; lia)),hv b',HX h];cases z:cT ((bP ks ks.length).take i) b' with
         | some m=>rfl
         | none=>rfl
   . rintro σ H3 ⟨_,s3,v4,v5,tds,rfl,he,hel,hv⟩;have hv:∀b:Nat,au tds (Sum.inl (b:Int):aF)=(cT (bP ks ks.length) b).map λ(m:Nat)=>V.int (m:Int):=λb=>by rw[hv b];unfold bg ft;rw[HS,IP]
     let#[rs,r1,r2,r3]:=hR.ex;show#[cO,λfl hfl=>?_];have s03:=s02\s3;have hf2:H3 fl=none:=hfl;have htf:td≠fl:=λz=>by rw[<- z,he] at hfl; cases hfl
     have hf0:H fl=none:=s03.free hfl;show#[5,a,rfl,#[_,(s03\(aB.new hfl))<*r1],uh (xs:=rs.map V.ref) (λi σ H4=>i<=ks.length/\aB H3 H4/\(∃v4 v5 v7,σ=[⇑↥a,⇑↥d,⇑↥l,⇑↥td,v4,v5,⇑↥fl,v7])/\FoundN H4 fl ks i) #[Hw _,aB.new hfl,#[17],#[[],aI,rfl,λk v z=>by simp at z]] ?_ ?_ ?_]
     . rintro i σ H4 hi ⟨_,s4,_⟩;exact(s03\s4).tup r1
     . rintro i x σ H4 b hx ⟨hi',s4,⟨v4,v5,v7,rfl⟩,hF⟩ hb;have hi:i<rs.length:=by have:=(HV.mp hx).1;rw[HS] at this;exact this
       rw[Hk] at hx;have hx:V.ref rs[i]=x:=by simpa [hi] using hx
       subst hx;let#[rest,hrow]:=r3 i rs[i] (by simp [hi]);have s5:=s4\(aB.new (o:=.tup [.int i,.ref rs[i]]) hb);have hF5:=hF*>(aB.new (o:=.tup [.int i,.ref rs[i]]) hb);show#[b,5,aG.of aI,403,?_];show#[5,rs[i],35,(s03\s5)<*hrow,bU,bL,λtw htw=>#[tw,[V.str "else",V.str "end"],rfl,.inr (aG.of aI),29,?_]];have s6:=s5\(aB.new (o:=.tup [V.str "else",V.str "end"]) htw);let#[vs,f1,f2,f3]:=hF5*>(aB.new (o:=.tup [V.str "else",V.str "end"]) htw);generalize upd (upd H4 b (.tup [.int i,.ref rs[i]])) tw (.tup [V.str "else",V.str "end"])=H6 at s6 f1 f3 ⊢;have s06:=s03\s6;have fin:∀{H7:Hp} {v:V} {oo:Hl (List Nat)} (u4 u5 u7:Hl V),aB H6 H7->Due ks i oo->gC H7 v oo->i+1<=ks.length/\aB H3 (upd H7 fl (.lst (vs++[v])))/\(∃v4 v5 v7,([⇑↥a,⇑↥d,⇑↥l,⇑↥td,u4,u5,⇑↥fl,u7]:St)=[⇑↥a,⇑↥d,⇑↥l,⇑↥td,v4,v5,⇑↥fl,v7])/\FoundN (upd H7 fl (.lst (vs++[v]))) fl ks (i+1):=λu4 u5 u7 s7 hd hv=>by show#[∅,(s6\s7).upd hfl,#[17],FoundN.push (s7 _ _ f1) f2 (λk v z=>?_) hd hv];let#[o',d',y]:=f3 k v z;show#[o',d',y*>s7]
       by_cases hE:isE (kd ks i)=true
       . refine ah ((inE _)\hE) ?_;show#[5,.inl #[6,aE.of f1],fl,19,f1,lt_line' ∅,fin _ _ _ (aB.refl _) (.no hE) rfl]
       refine aa (λz=>hE ((inE _).symm.trans z)) ?_;show#[5,rs[i],35,s06<*hrow,bU,13,?_];by_cases hbk:kd ks i="back"
       . refine ah (Hf (Hr V.str hbk)) ?_;show#[5,.inl #[6,aE.of f1],cO,λp hp=>#[fl,19,aB.new hp _ _ f1,lt_line' ∅,fin _ _ _ (aB.new hp) (.back hbk) #[p,rfl,aI]]]
       refine aa (λz=>hbk (V.str.inj (bG z))) ?_;have hlast:=sT w ∅ hbk;let#[r,hr1,hr2]:=hb3 i hlast;have hb6:=(s3\s6) _ _ hb1;have ht6:=s6 _ _ he;show#[21,td,5,dA.k (k:=Sum.inl (i:Int)) ht6,5,?_];by_cases hO:isO (kd ks i)=true
       . let#[e,hEn]:=vD w ∅ hO;let#[f,hf]:=Ew hEn;let#[r',hr3,hr4]:=hb3 f (Dr w hf);have hvi:au tds (Sum.inl (i:Int):aF)=⇑(V.int (f:Int)):=by rw[hv i,Bh hf]; rfl
         refine ah (by rw[hvi]; rfl) ?_;have g:dA H6 td (.int (i:Int)) ⇑(V.int (f:Int)):=.inl #[_,Sum.inl (i:Int),.inl ht6,rfl,hvi.symm];show#[5,.inl #[6,aE.of f1],21,l,35,aE.of hb6,bv hr2,85,td,5,g,l,35,aE.of hb6,bv hr4,bL,λp hp=>#[fl,19,aB.new hp _ _ f1,lt_line' ∅,fin _ _ _ (aB.new hp) (.two hO hf hr1 hr3) #[p,rfl,aI]]]
       . have hvi:au tds (Sum.inl (i:Int):aF)=none:=by rw[hv i,Ga hO]; rfl
         refine aa (by rw[hvi]; decide) ?_;show#[5,.inl #[6,aE.of f1],21,l,35,aE.of hb6,bv hr2,eu,λp hp=>#[fl,19,aB.new hp _ _ f1,lt_line' ∅,fin _ _ _ (aB.new hp) (.one hE hbk hO hr1) #[p,rfl,aI]]]
     . rintro σ H4 ⟨_,s4,⟨v4,v5,v7,rfl⟩,hF⟩;rw[HS,r2] at hF;show#[5,q fl H4 (s03\s4) hf0 hF]
end
end K38
namespace K38
open PySem L2 Gx Fl F2
section
variable {P:Program} {w:World} {K:L7} {mg:Str->Hl K'} {base:Heap} {t:Adr}
def oh:FnScope ["self","program","k","function"] ["self","program"] (aS fB):=by walk_at "s"
def BG (T:Txt K mg t):FnOk P w K mg base CX0 4 t.xJ t.yX ["self","program"] (Ft K t):=by
 have QJ:=AS (P:=P) (w:=w) (base:=base) T;have QK:=Br (P:=P) (w:=w) (base:=base) T;refine T.wr.F.ok oh (λvs H Q E h=>?_) (λcdv A outer s H vs Q E hr h=>?_)
 . let#[_,_,_,_,rfl,_]:=h;rfl
 . skip
   refine lx ?_;intro XX;refine(let W7:TS:=_; have hW7:aO XX ((aP fB).drop 7) W7:=(@aK _ _ _ (bu PassesOwn.never rfl (En rfl T.b_enumerate (aA 1>=>aD)) (cx rfl (bK (aY (i:=2) oh.nd rfl 0x4) (bK (aY (i:=3) oh.nd rfl 0x4) ck))) (aJ (dQ (bY hr.units) (fD (aA 0)) (iT K (aA 3)) (aA 2) 0x0) (aJ (dQ (bY hr.units) (fD (aA 0)) (iT K (aA 3)) (iT K (aA 3)) 0x0) (aJ (dQ (bY hr.units) (fD (aA 0)) (iT K (aA 3)) (iT K (aA 3)) 0x0) (aJ (dQ (bY hr.units) (fD (aA 0)) (iT K (aA 3)) (iT K (aA 3)) 0x0) (aJ (dQ (bY hr.units) (fD (aA 0)) (iT K (aA 3)) (cD T.names_of QJ hr (aA 3>=>aD)) 0x0) (@aK _ _ _ (dQ (bY hr.units) (fD (aA 0)) (iT K (aA 3)) (cD T.ways QK hr ((iT K (aA 3))>=>aD)) 0x0))))))))); ?_);refine(let W6:TS:=_; have hW6:aO XX ((aP fB).drop 6) W6:=(gN (cN (aA 0) dy 0x0) @hW7); ?_);refine(let W5:TS:=_; have hW5:aO XX ((aP fB).drop 5) W5:=(aJ (cN (aA 0) dy 0x0) @hW6); ?_);refine(let W4:TS:=_; have hW4:aO XX ((aP fB).drop 4) W4:=(aJ (cN (aA 0) dy 0x0) @hW5); ?_);refine(let W3:TS:=_; have hW3:aO XX ((aP fB).drop 3) W3:=(aJ (cN (aA 0) dy 0x0) @hW4); ?_);refine(let W2:TS:=_; have hW2:aO XX ((aP fB).drop 2) W2:=(aJ (cN (aA 0) dy 0x0) @hW3); ?_);refine(let W1:TS:=_; have hW1:aO XX ((aP fB).drop 1) W1:=(aJ (cN (aA 0) dy 0x0) @hW2); ?_);let#[x,dx,p,fns,rfl,hx,hS,n0,n12,hE,nd,q]:=h;show#[_,(aJ (cN (aA 0) (iT K (iY K (aA 1) (eh fE aH))) 0x0) @hW1),?_];have fl:(fns.map λf=>V.ref f.fa).length=fns.length:=HS _;have np:0<fns.length:=List.length_pos_iff.mpr n0;obtain⟨fz,hz⟩:∃fz,fns[fns.length - 1]?=⇑fz:=#[fns[fns.length - 1],HU ∅]
   have hzT:=(hE fz (IA hz)).fn;have eL:aq (fns.map λf=>V.ref f.fa) (-1)=⇑(V.ref fz.fa):=by
     unfold aq cb;rw[HX #[],He (by rw[fl]; lia),Jc];have:((-1:Int)+((fns.map λf=>V.ref f.fa).length:Int)).toNat=fns.length - 1:=by rw[fl]; lia
     rw[this,Hk,hz];rfl
   show#[21,p,35,bO.seq hS,eL,fz.fa,35,bO<*hzT,bU,5,x,t.bq,dx,5,hx,T.dR.cl,T.jd,(by show 0<1000; decide),?_];have sx:∀{b:L6} {o:HO},ers x H b=⇑o->b≠x/\H b=⇑o:=λ{b o} e=>by
     have hb:b≠x:=λz=>by rw[z] at e; unfold ers at e; rw[He rfl] at e; cases e
     rw[ak hb] at e;show#[hb,e]
   have l1:=jN "last" (V.str fz.name) [] 0 (HY _);intro d0 h0;show#[5,x,t.bq,dx,5,ax aI (Ne.symm (bM h0).1),T.dR.cl,T.je,∅,?_];have l2:=jN "number_of" ↥d0 _ 1 l1;intro d1 h1;show#[5,x,t.bq,dx,5,ax aI (Ne.symm (bM h1).1),T.dR.cl,T.jc,∅,?_];have l3:=jN "folded_of" ↥d1 _ 2 l2;intro d2 h2;show#[5,x,t.bq,dx,5,ax aI (Ne.symm (bM h2).1),T.dR.cl,T.jf,∅,?_];have l4:=jN "params_of" ↥d2 _ 3 l3;intro d3 h3;show#[5,x,t.bq,dx,5,ax aI (Ne.symm (bM h3).1),T.dR.cl,T.jg,∅,?_];have l5:=jN "rows_of" ↥d3 _ 4 l4;intro d4 h4;show#[5,x,t.bq,dx,5,ax aI (Ne.symm (bM h4).1),T.dR.cl,T.ik,∅,?_];have l6:=jN "names_in" ↥d4 _ 5 l5;show#[λσ' G=>∃d:Nat->L6,σ'=[⇑↥x,⇑↥p,none,none]/\FS t.bq G x dx (dJ (V.str fz.name) d) d (λ_=>[])/\(∀i j,i<6->j<6->d i=d j->i=j)/\aB (ers x H) G/\∀k,ers x H (d k)=none,?_,?_]
   . intro d5 h5;let#[nx0,z0]:=bM h0;have q0:H d0=none:=z0;let#[nx1,z1]:=bM h1;let#[n10,w10]:=bM z1;let#[_,y10]:=bM w10;have q1:H d1=none:=y10;let#[nx2,z2]:=bM h2;let#[n21,w21]:=bM z2;let#[_,y21]:=bM w21;let#[n20,w20]:=bM y21;let#[_,y20]:=bM w20;have q2:H d2=none:=y20;let#[nx3,z3]:=bM h3;let#[n32,w32]:=bM z3;let#[_,y32]:=bM w32;let#[n31,w31]:=bM y32;let#[_,y31]:=bM w31;let#[n30,w30]:=bM y31;let#[_,y30]:=bM w30;have q3:H d3=none:=y30;let#[nx4,z4]:=bM h4;let#[n43,w43]:=bM z4;let#[_,y43]:=bM w43;let#[n42,w42]:=bM y43;let#[_,y42]:=bM w42;let#[n41,w41]:=bM y42;let#[_,y41]:=bM w41;let#[n40,w40]:=bM y41;let#[_,y40]:=bM w40;have q4:H d4=none:=y40;let#[nx5,z5]:=bM h5;let#[n54,w54]:=bM z5;let#[_,y54]:=bM w54;let#[n53,w53]:=bM y54;let#[_,y53]:=bM w53;let#[n52,w52]:=bM y53;let#[_,y52]:=bM w52;let#[n51,w51]:=bM y52;let#[_,y51]:=bM w51;let#[n50,w50]:=bM y51;let#[_,y50]:=bM w50;have q5:H d5=none:=y50;have inj:=Bp (d0:=d0) (d1:=d1) (d2:=d2) (d3:=d3) (d4:=d4) (d5:=d5) (by simp [Ne.symm n10,Ne.symm n20,Ne.symm n30,Ne.symm n40,Ne.symm n50,Ne.symm n21,Ne.symm n31,Ne.symm n41,Ne.symm n51,Ne.symm n32,Ne.symm n42,Ne.symm n52,Ne.symm n43,Ne.symm n53,Ne.symm n54]);show#[5,x,t.bq,dx,5,ax aI (Ne.symm nx5),T.dR.cl,T.jh,∅,dd d0 d1 d2 d3 d4 d5,rfl,#[aI,λj hj=>?_],inj,λb o e=>ax (ax (ax (ax (ax (ax (ax (ax (ax (ax (ax (ax (ax (sx e).2 (sx e).1) (cR (sx e).2 q0)) (sx e).1) (cR (sx e).2 q1)) (sx e).1) (cR (sx e).2 q2)) (sx e).1) (cR (sx e).2 q3)) (sx e).1) (cR (sx e).2 q4)) (sx e).1) (cR (sx e).2 q5)) (sx e).1,λk=>?_]
     . match j,hj with
       | 0,_=>exact ax (ax (ax (ax (ax (ax (ax (ax (ax (ax (ax aI nx0) (Ne.symm n10)) nx0) (Ne.symm n20)) nx0) (Ne.symm n30)) nx0) (Ne.symm n40)) nx0) (Ne.symm n50)) nx0
       | 1,_=>exact ax (ax (ax (ax (ax (ax (ax (ax (ax aI nx1) (Ne.symm n21)) nx1) (Ne.symm n31)) nx1) (Ne.symm n41)) nx1) (Ne.symm n51)) nx1
       | 2,_=>exact ax (ax (ax (ax (ax (ax (ax aI nx2) (Ne.symm n32)) nx2) (Ne.symm n42)) nx2) (Ne.symm n52)) nx2
       | 3,_=>exact ax (ax (ax (ax (ax aI nx3) (Ne.symm n43)) nx3) (Ne.symm n53)) nx3
       | 4,_=>exact ax (ax (ax aI nx4) (Ne.symm n54)) nx4
       | 5,_=>exact ax aI nx5
       | n+6,h=>lia
     . match k with
       | 0=>exact(ak nx0).trans q0
       | 1=>exact(ak nx1).trans q1
       | 2=>exact(ak nx2).trans q2
       | 3=>exact(ak nx3).trans q3
       | 4=>exact(ak nx4).trans q4
       | n+5=>exact(ak nx5).trans q5
   rintro σ' G ⟨d,rfl,hFS,inj,hsm,hfd⟩;show#[5,p,rfl,#[_,hsm.seq hS],(let Jv1:Nat->St->Hp->Prop:=λi σ H2=>∃(v2 v3:Hl V) (kv:Nat->List (aF×V)) (nl wl:Nat->L6),σ=[⇑↥x,⇑↥p,v2,v3]/\aB (ers x H) H2/\FS t.bq H2 x dx (dJ (V.str fz.name) d) d kv/\kv 0=kD (λi _=>.int i) (fns.take i)/\kv 1=kD (λ_ f=>f.fo) (fns.take i)/\kv 2=kD (λ_ f=>↥f.pa) (fns.take i)/\kv 3=kD (λ_ f=>↥f.ra) (fns.take i)/\kv 4=kD (λi _=>↥(nl i)) (fns.take i)/\kv 5=kD (λi _=>↥(wl i)) (fns.take i)/\(∀j g,j<i->fns[j]?=⇑g->hl H2 (nl j)=⇑(.lst ((nms g).map V.str))/\K13.FoundN (hl H2) (wl j) (im g) (im g).length)/\∀j,j<6->(kv j).length<=i; Bc (xs:=fns.map λf=>V.ref f.fa) Jv1 #[8,λ_=>0,λ_=>0,rfl,hsm,hFS,127,λj g h=>absurd h (Ir _),λj hj=>HY _] ?_ ?_ ?_)]
   . rintro i σ H2 hi ⟨v2,v3,kv,nlf,wlf,rfl,s2,_⟩;exact s2.seq hS
   . rintro i y σ H2 b hy ⟨v2,v3,kv,nlf,wlf,rfl,s2,o2,k0,k1,k2,k3,k4,k5,hnw,kl⟩ hb;let#[f,hi,hm,rfl]:=Fx hy;have ilt:i<fns.length:=(HV.mp hi).1;have hT:=(hE f hm).fn;have hfu:=(hE f hm).fu;have fit:∀{n:Nat},n<=i+1->n<sizeLine:=λ{n} h=>vU ∅;show#[b,5,aG.of aI,403,?_];have s3:=s2\(aB.new (o:=.tup [.int i,↥f.fa]) hb);have o3:=o2*>(aB.new (o:=.tup [.int i,↥f.fa]) hb);show#[21,x,t.bq,dx,9,o3.ob,T.dR.cl,T.je,Dn _ _,5,f.fa,35,s3<*hT,bU,d 0,5,ci.k (k:=0xB) (show _=⇑(HO.dK (kv 0)) from o3.dc 0 #[]) (fit (by have:=kl 0 #[]; simpa using (by lia:_<=i+1))),?_];have s4:=aB.upd (o:=.dK (putK (kv 0) 0xB (V.int i))) s3 (hfd 0);have o4:=o3.put inj 0 #[] (putK (kv 0) 0xB (V.int i));show#[5,f.fa,35,s4<*hT,13,x,t.bq,dx,9,o4.ob,T.dR.cl,T.jc,C2 _ _,5,f.fa,35,s4<*hT,bU,d 1,5,ci.k (k:=0xB) (show _=⇑(HO.dK (kv 1)) from o4.dc 1 #[]) (fit (by have:=kl 1 #[]; simpa using (by lia:_<=i+1))),?_];have s5:=aB.upd (o:=.dK (putK (kv 1) 0xB f.fo)) s4 (hfd 1);have o5:=o4.put inj 1 #[] (putK (kv 1) 0xB f.fo);show#[5,f.fa,35,s5<*hT,13,x,t.bq,dx,9,o5.ob,T.dR.cl,T.jf,A7 _ _,5,f.fa,35,s5<*hT,bU,d 2,5,ci.k (k:=0xB) (show _=⇑(HO.dK (kv 2)) from o5.dc 2 #[]) (fit (by have:=kl 2 #[]; simpa using (by lia:_<=i+1))),?_];have s6:=aB.upd (o:=.dK (putK (kv 2) 0xB ↥f.pa)) s5 (hfd 2);have o6:=o5.put inj 2 #[] (putK (kv 2) 0xB ↥f.pa);show#[5,f.fa,35,s6<*hT,13,x,t.bq,dx,9,o6.ob,T.dR.cl,T.jg,zW _ _,5,f.fa,35,s6<*hT,bU,d 3,5,ci.k (k:=0xB) (show _=⇑(HO.dK (kv 3)) from o6.dc 3 #[]) (fit (by have:=kl 3 #[]; simpa using (by lia:_<=i+1))),?_];have s7:=aB.upd (o:=.dK (putK (kv 3) 0xB ↥f.ra)) s6 (hfd 3);have o7:=o6.put inj 3 #[] (putK (kv 3) 0xB ↥f.ra);show#[5,f.fa,f.ps,f.ds,rfl,hfu*>s7,λnl H8 e8 hnl hl8=>?_];have s8:=s7\e8;have o8:=o7*>e8;show#[5,x,t.bq,dx,9,o8.ob,T.dR.cl,T.ik,uS _ _,5,f.fa,35,s8<*hT,bU,d 4,5,ci.k (k:=0xB) (show _=⇑(HO.dK (kv 4)) from o8.dc 4 #[]) (fit (by have:=kl 4 #[]; simpa using (by lia:_<=i+1))),?_];have s9:=aB.upd (o:=.dK (putK (kv 4) 0xB ↥nl)) s8 (hfd 4);have o9:=o8.put inj 4 #[] (putK (kv 4) 0xB ↥nl);show#[5,f.fa,35,s9<*hT,rfl,f.ra,im f,rfl,((hE f hm).old.mono s9).rows,(hE f hm).wf,(by unfold im; rw[HS]; have:=(hE f hm).len; lia),λwl HA eA hwl hfn=>?_];have sA:=s9\eA;have oA:=o9*>eA;show#[5,x,t.bq,dx,9,oA.ob,T.dR.cl,T.jh,Dz _ _,5,f.fa,35,sA<*hT,bU,d 5,5,ci.k (k:=0xB) (show _=⇑(HO.dK (kv 5)) from oA.dc 5 #[]) (fit (by have:=kl 5 #[]; simpa using (by lia:_<=i+1))),?_];have sB:=aB.upd (o:=.dK (putK (kv 5) 0xB ↥wl)) sA (hfd 5);have oB:=oA.put inj 5 #[] (putK (kv 5) 0xB ↥wl);have c3:aB (hl H2) (hl H8):=by have z1:aB (hl H2) (hl (upd H2 b (.tup [.int i,↥f.fa]))):=(aB.new (o:=.tup [.int i,↥f.fa]) hb).hl;have z2:=e8.hl;rw[jI (o6.dc 3 #[]),jI (o5.dc 2 #[]),jI (o4.dc 1 #[]),jI (o3.dc 0 #[])] at z2;exact z1\z2
     have c4:aB (hl H8) (hl HA):=by have z2:=eA.hl;rw[jI (o8.dc 4 #[])] at z2;exact z2
     have c5:hl (upd HA (d 5) (.dK (putK (kv 5) 0xB ↥wl)))=hl HA:=jI (oA.dc 5 #[]);show#[8,λj=>if j=i then nl else nlf j,λj=>if j=i then wl else wlf j,rfl,sB,oB,?_,?_,?_,?_,?_,?_,λj g hj hg=>?_,λj hj=>?_]
     . show putK (kv 0) 0xB (V.int i)=_;rw[k0];exact hU hi nd (λ_ _ _=>rfl) rfl
     . show putK (kv 1) 0xB f.fo=_;rw[k1];exact hU hi nd (λ_ _ _=>rfl) rfl
     . show putK (kv 2) 0xB ↥f.pa=_;rw[k2];exact hU hi nd (λ_ _ _=>rfl) rfl
     . show putK (kv 3) 0xB ↥f.ra=_;rw[k3];exact hU hi nd (λ_ _ _=>rfl) rfl
     . show putK (kv 4) 0xB ↥nl=_;rw[k4];exact hU hi nd (λj _ hj=>by show V.ref (nlf j)=V.ref (if j=i then nl else nlf j); rw[HX ∅]) (by show V.ref nl=V.ref (if i=i then nl else nlf i); rw[He rfl])
     . show putK (kv 5) 0xB ↥wl=_;rw[k5];exact hU hi nd (λj _ hj=>by show V.ref (wlf j)=V.ref (if j=i then wl else wlf j); rw[HX ∅]) (by show V.ref wl=V.ref (if i=i then wl else wlf i); rw[He rfl])
     . rw[c5];by_cases hji:j=i
       . subst hji;rw[hi] at hg;cases hg;show#[?_,?_]
         . show hl HA (if j=j then nl else nlf j)=_;rw[He rfl];exact c4 _ _ (uM hl8)
         . show K13.FoundN (hl HA) (if j=j then wl else wlf j) _ _;rw[He rfl];exact hfn.hl
       . let#[y1,y2]:=hnw j g ∅ hg;show#[?_,?_]
         . show hl HA (if j=i then nl else nlf j)=_;rw[HX hji];exact c4 _ _ (c3 _ _ y1)
         . show K13.FoundN (hl HA) (if j=i then wl else wlf j) _ _;rw[HX hji];exact y2*>(c3\c4)
     . have e:=kl j hj
       match j,hj with
       | 0,_=>exact Hu (dL _ _ _) ∅
       | 1,_=>exact Hu (dL _ _ _) ∅
       | 2,_=>exact Hu (dL _ _ _) ∅
       | 3,_=>exact Hu (dL _ _ _) ∅
       | 4,_=>exact Hu (dL _ _ _) ∅
       | 5,_=>exact Hu (dL _ _ _) ∅
       | n+6,h=>lia
   . rintro σ H2 ⟨v2,v3,kv,nlf,wlf,rfl,s2,o2,k0,k1,k2,k3,k4,k5,hnw,kl⟩;rw[fl,IP] at k0 k1 k2 k3 k4 k5;exact q H2 s2 #[λf hf=>(hE f hf)*>s2,nd,dx,fz,d,kv,nlf,wlf,hz,o2,k0,k1,k2,k3,k4,k5,λi f hi=>by let#[y1,y2]:=hnw i f (by rw[fl]; exact(HV.mp hi).1) hi; show#[pe _ _ y1,y2*>pe]]
end
end K38
namespace K38
open PySem L2 K21
section
variable {P:Program} {w:World} {K:L7} {mg:Str->Hl K'} {base:Heap} {t:Adr}
def C4:FnScope ["sign","one","other"] ["sign","one","other"] (aS my):=by walk_at "s"
def Fz (T:Txt K mg t):FnOk P w K mg base CX0 1 t.yC t.zG ["sign","one","other"] (BR K):=by
 refine T.value.F.ok C4 (λvs H Q E h=>?_) (λcdv A outer s H vs Q E hr h=>?_)
 . let#[_,_,_,rfl,_]:=h;rfl
 . let#[s,a,b,rfl,h1,h2,h3,h4,q]:=h;show#[_,(aJ (af (ao bB (aA 0) ai (ag _)) (~~~(aV bH<$>(ay bc<$>aA 1<*>aA 2)<*>r6 T.rQ)) ac) (aJ (af (ao bB (aA 0) ai (ag _)) (~~~(aV bH<$>(ay fq<$>aA 1<*>aA 2)<*>r6 T.rQ)) ac) (aJ (af (ao bB (aA 0) ai (ag _)) (~~~(aV bH<$>(aV fX<$>aA 1<*>aA 2)<*>r6 T.rQ)) ac) (aJ (af (ao bB (aA 0) ai (ag _)) (~~~(@iA _ _ _ _ _ _ _ _ (ao bB (aA 2) aH (ag _)) aH (aV sL<$>aA 1<*>aA 2))) ac) (aJ (af (ao bB (aA 0) ai (ag _)) (~~~(@iA _ _ _ _ _ _ _ _ (ao (ay jJ) (aA 1) (aA 2) (ag _)) aH aH)) ac) (aJ (af (ao bB (aA 0) ai (ag _)) (~~~(@iA _ _ _ _ _ _ _ _ (ao bB (aA 1) (aA 2) (ag _)) aH aH)) ac) (aJ (af (ao bB (aA 0) ai (ag _)) (~~~(ay vM<$>aA 1<*>aA 2)) ac) (aJ (af (ao bB (aA 0) ai (ag _)) (~~~(ay wV<$>aA 1<*>aA 2)) ac) (~~~(ay wP<$>aA 1<*>aA 2)))))))))),?_];have hw:wide=281474976710656:=rfl;show#[45,?_];by_cases k1:s="+"
   . refine ah (Hf (Hr V.str k1)) ?_;have e:valOf s a b=(a+b)%wide:=by unfold valOf; rw[He k1]
     rw[e] at q;show#[5427,(show(0:Int)<281474976710656 by decide),q]
   refine aa (λz=>k1 (V.str.inj (bG z))) ?_;show#[45,?_];by_cases k2:s="-"
   . refine ah (Hf (Hr V.str k2)) ?_;have e:valOf s a b=(a - b)%wide:=by unfold valOf; rw[HX k1,He k2]
     rw[e] at q;show#[5427,(show(0:Int)<281474976710656 by decide),q]
   refine aa (λz=>k2 (V.str.inj (bG z))) ?_;show#[45,?_];by_cases k3:s="*"
   . refine ah (Hf (Hr V.str k3)) ?_;have e:valOf s a b=(a * b)%wide:=by unfold valOf; rw[HX k1,HX k2,He k3]
     rw[e] at q;show#[339,.inl #[∅,∅],19,(show(0:Int)<281474976710656 by decide),q]
   refine aa (λz=>k3 (V.str.inj (bG z))) ?_;show#[45,?_];by_cases k4:s="/"
   . refine ah (Hf (Hr V.str k4)) ?_;have e:valOf s a b=if b=0 then 0 else a / b:=by unfold valOf; rw[HX k1,HX k2,HX k3,He k4]
     rw[e] at q;show#[45,?_];by_cases hb:b=0
     . rw[He hb] at q;exact ah (Hf (Hr V.int hb)) q
     . rw[HX hb] at q;exact aa (λz=>hb (V.int.inj (bG z))) #[339,#[∅,∅],q]
   refine aa (λz=>k4 (V.str.inj (bG z))) ?_;show#[45,?_];by_cases k5:s="<"
   . refine ah (Hf (Hr V.str k5)) ?_;have e:valOf s a b=if a<b then 1 else 0:=by unfold valOf; rw[HX k1,HX k2,HX k3,HX k4,He k5]
     rw[e] at q;show#[1357,?_];by_cases hb:a<b
     . rw[He hb] at q;exact ah (Hf hb) q
     . rw[HX hb] at q;exact aa (λz=>hb (bG z)) q
   refine aa (λz=>k5 (V.str.inj (bG z))) ?_;show#[45,?_];by_cases k6:s="="
   . refine ah (Hf (Hr V.str k6)) ?_;have e:valOf s a b=if a=b then 1 else 0:=by unfold valOf; rw[HX k1,HX k2,HX k3,HX k4,HX k5,He k6]
     rw[e] at q;show#[173,?_];by_cases hb:a=b
     . rw[He hb] at q;exact ah (Hf (Hr V.int hb)) q
     . rw[HX hb] at q;exact aa (λz=>hb (V.int.inj (bG z))) q
   refine aa (λz=>k6 (V.str.inj (bG z))) ?_;show#[45,?_];by_cases k7:s="&"
   . refine ah (Hf (Hr V.str k7)) ?_;have e:valOf s a b=Builtin.bitAnd a b:=by unfold valOf bw; rw[HX k1,HX k2,HX k3,HX k4,HX k5,HX k6,He k7]
     rw[e] at q;show#[339,q]
   refine aa (λz=>k7 (V.str.inj (bG z))) ?_;show#[45,?_];by_cases k8:s="|"
   . refine ah (Hf (Hr V.str k8)) ?_;have e:valOf s a b=Builtin.bitOr a b:=by unfold valOf bw; rw[HX k1,HX k2,HX k3,HX k4,HX k5,HX k6,HX k7,He k8]
     rw[e] at q;show#[339,q]
   refine aa (λz=>k8 (V.str.inj (bG z))) ?_;have e:valOf s a b=Builtin.bitXor a b:=by unfold valOf bw; rw[HX k1,HX k2,HX k3,HX k4,HX k5,HX k6,HX k7,HX k8]
   rw[e] at q;show#[339,q]
end
end K38
namespace K38
open PySem L2 K21 Rk2
section
variable {P:Program} {w:World} {K:L7} {mg:Str->Hl K'} {base:Heap} {t:Adr}
def tT:FnScope ["one","boxes"] ["one","boxes"] (aS nc):=by walk_at "s"
def oZ (T:Txt K mg t):∀n,FnOk P w K mg base CX0 (n+1) t.lS t.lV ["one","boxes"] (nC K n)
| 0=>T.worth.F.ok tT (λvs H Q E h=>by let#[tr,v,d,kvs,rfl,hd,hR,hD,dv,ok,q]:=h; exact absurd hd (Ir _)) (λcdv A outer s H vs Q E hr h=>by let#[tr,v,d,kvs,rfl,hd,hR,hD,dv,ok,q]:=h; exact absurd hd (Ir _))
| n+1=>by
 have QL:=Fz (P:=P) (w:=w) (base:=base) T;have Qd:FnOk P w K mg base CX0 (n+1) t.lS t.lV ["one","boxes"] (nC K n):=oZ T n;refine T.worth.F.ok tT (λvs H Q E h=>?_) (λcdv A outer s H vs Q E hr h=>?_)
 . let#[_,_,_,_,rfl,_]:=h;rfl
 . let#[tr,v,d,kvs,rfl,hd,hR,hD,dv,ok,q]:=h;show#[_,(aJ (af (ao bB (iT K (aA 0)) ai (ag _)) (~~~(iT K (aA 0))) ac) (aJ (af (ao bB (iT K (aA 0)) ai (ag _)) (~~~(pQ (bY hr.units) (aA 1) (iT K (aA 0)) aH #[31])) ac) (~~~(cP T.value QL (hr.mono ∅) ((iT K (aA 0))>=>(cP T.worth Qd (hr.mono ∅) ((iT K (aA 0))>=>aA 1>=>aD))>=>(cP T.worth Qd (hr.mono ∅) ((iT K (aA 0))>=>aA 1>=>aD))>=>aD))))),?_];cases tr with
   | num k =>
     let#[p,rfl,e]:=hR;show#[5,p,35,aG.of e,bU,13,ah (Hf rfl) #[5,p,35,aG.of e,rfl,q]]
   | box k =>
     let#[p,rfl,e]:=hR;show#[5,p,35,aG.of e,bU,13,aa (λz=>FM (V.str.inj (bG z))) ?_];show#[5,p,35,aG.of e,bU,13,ah (Hf rfl) ?_];show#[5,d,rfl,.inl #[kvs,.inl hD],5,p,35,aG.of e,6,dA.k (k:=Sum.inl k) hD,vq (wk dv k) q]
   | op s l r =>
     let#[p,x,y,rfl,e,n1,n2,hx,hy]:=hR;have d1:dp l<n:=by have:max (dp l) (dp r)+1<n+1:=hd; lia
     have d2:dp r<n:=by have:max (dp l) (dp r)+1<n+1:=hd; lia
     let#[o1,o2]:=px ok;have b1:=i9 (kR dv) o1;have b2:=i9 (kR dv) o2;show#[5,p,35,aG.of e,bU,13,aa (λz=>n2 (V.str.inj (bG z))) ?_];show#[5,p,35,aG.of e,bU,13,aa (λz=>n1 (V.str.inj (bG z))) ?_];show#[5,p,35,aG.of e,bU,5,p,35,aG.of e,13,l,x,d,kvs,rfl,d1,hx,hD,dv,o1,5,p,35,aG.of e,13,r,y,d,kvs,rfl,d2,hy,hD,dv,o2,s,9,b1.1,b2.1,b1.2,b2.2,q]
end
end K38
namespace K38
open PySem L2 Gx Fl Cw
section
variable {P:Program} {w:World} {K:L7} {mg:Str->Hl K'} {base:Heap} {t:Adr}
def HB:FnScope ["act"] ["act"] (aS nu):=by walk_at "s"
def AR (T:Txt K mg t):FnOk P w K mg base CX0 1 t.yA t.zE ["act"] (GF K):=by
 refine T.reckonings_of.F.ok HB (λvs H Q E h=>?_) (λcdv A outer s H vs Q E hr h=>?_)
 . obtain⟨a,v,rfl,⟨r,xs,rfl,hr,hx⟩,hl,q⟩:=h;rfl
 . obtain⟨a,v,rfl,⟨r,xs,rfl,hr,hx⟩,hl,q⟩:=h;show#[_,(aJ (af (ao bB (iT K (aA 0)) ai (ag _)) (~~~(dk p8 0x0 T.b_list j7 ((iT K (aA 0))>=>aD))) ac) (~~~(dN (N':=["place","act"]) (js:=[none,some 0]) (by kernel_rfl) rfl (nO (ae sV (iF T.HL) (iT K (aA 0)) 0x5)) dH (λ_ _ _ _=>(aY (i:=0) (show(["place","act"]:List Str).Nodup by decide +kernel) rfl 0x4 (.inr rfl))) (λ_ _ _ _=>cr) (λ_ _ _ _=>(iX K (aA 1) (aA 0)))))),?_];let#[h0,us,hu,hc]:=tI hx;have lu:=Rk2.Ps.len hu;show#[5,r,35,hr,h0,13,?_];rcases hc with⟨hc,p,h3,hp⟩|⟨hne,pl,hk,hpl,hat⟩
   . exact ah (by rw[hc]; exact Hf rfl) #[5,r,35,hr,h3,p,us,rfl,.inr hp,λl hl=>q l us _ (aB.new hl) hl aI (oW (aB.new hl) hu)]
   . refine aa (λh=>hne (V.str.inj (bG h))) ?_;show#[5,r,35,hr,h0,t.rN,rtab,19,T.HP,hk,λa ha=>?_];show#[a,rfl,#[_,ha],λp hp=>(let Jv1:Nat->List V->Hp->Prop:=λi acc H2=>acc=us.take i/\H2=upd H p (.lst acc); oU (xs:=pl.map V.int) (by rw[HS]; lia) Jv1 #[7] ?_ ?_ ?_)]
     . rintro i acc H2 hi ⟨rfl,rfl⟩;show#[aI,by rw[IE]; lia,(aB.new hp)<*ha]
     . rintro i x acc H2 hx ⟨rfl,rfl⟩;have hi:i<us.length:=by
         have:=(HV.mp hx).1;rw[HS] at this
         lia
       let#[p1,hp1,hp2]:=hat i us[i] (by simp [hi]);rw[Hk,hp1] at hx;have hx:V.int p1=x:=↑hx
       subst hx;show#[21,r,35,(aB.new hp)<*hr,hp2,aI,?_,et];rw[IM];simp [hi]
     . rintro acc H2 ⟨rfl,rfl⟩;have e:(us.take (pl.map V.int).length)=us:=by rw[HS,hpl]; exact IP
       exact q p us _ (aB.new hp) hp (by rw[aI,e]) (oW (aB.new hp) hu)
def mR:FnScope ["code","found","name","spots"] ["code"] (aS kh):=by walk_at "s"
def zi (T:Txt K mg t):FnOk P w K mg base CX0 1 t.yB t.zF ["code"] (CY K):=by
 refine T.spots_by_name.F.ok mR (λvs H Q E h=>?_) (λcdv A outer s H vs Q E hr h=>?_)
 . obtain⟨v,cs,Hb,rfl,hb,⟨p,us,rfl,hp,hu⟩,nd,hl,hk,q⟩:=h;rfl
 . skip
   refine lx ?_;intro XX;refine(let W2:TS:=_; have hW2:aO XX ((aP kh).drop 2) W2:=(~~~(aA 1)); ?_);obtain⟨v,cs,Hb,rfl,hb,⟨p,us,rfl,hp,hu⟩,nd,hl,hk,q⟩:=h;show#[_,(aJ (pS 1 mR.nd dy) (aJ (bu PassesOwn.never rfl (d7 (aA 0)) (cx rfl (bK (aY (i:=2) mR.nd rfl 0x4) (bK (aY (i:=3) mR.nd rfl 0x4) ck))) (@aK _ _ _ (dQ (bY hr.units) (aA 1) (aA 2) (dN (N':=["sets","act"]) (js:=[none,none]) (by kernel_rfl) rfl (d7 (aA 3)) (og (io (io qo))) (λ_ _ _ _=>(show PG _ _ (jr K 2 _) from cx (n:=2) rfl (bK (aY (i:=0) (show(["sets","act"]:List Str).Nodup by decide +kernel) rfl 0x4 (.inr rfl)) (bK (aY (i:=1) (show(["sets","act"]:List Str).Nodup by decide +kernel) rfl 0x4 (.inr rfl)) ck)))) (λ_ _ _ _=>cr) (λ_ _ _ _=>(bD ((dk (show aw _ (.type "tuple") (uF K) from jH) 0x0 T.b_tuple gW (aA 0>=>aD))>=>aA 1>=>aD)))) 0x0))) @hW2)),?_];have lu:=Rk2.Ps.len hu;refine λd hd=>?_;have hdb:Hb d=none:=hb.free hd;have s0:=aB.new (o:=.dK []) hd;show#[5,p,rfl,#[_,(hb\s0).seq hp],(let Jv1:Nat->St->Hp->Prop:=λi σ H2=>aB H H2/\∃v2 v3 kvs,σ=[⇑↥p,⇑↥d,v2,v3]/\H2 d=⇑(.dK kvs)/\kvs.length<=i/\nK K (ers d (Wk.gr Hb H H2)) kvs (cs.take i); gP (xs:=us) Jv1 #[s0,17,aI,HY _,λ_ _ m=>by simp at m] ?_ ?_ ?_)]
   . rintro i σ H2 hi ⟨s2,_⟩;exact(hb\s2).seq hp
   . rintro i x σ H2 hx ⟨s2,v2,v3,kvs,rfl,e2,l2,n2⟩;have hi:i<cs.length:=by have:=(HV.mp hx).1; lia
     let#[v,hv,q1,l1,ws,rfl,hq1,hl1,hw]:=c8 hu (HU hi);rw[hx] at hv;cases hv;have ok:=hk _ (IT hi);have lw:=Rk2.Ps.len hw;have b2:=hb\s2;show#[q1,5,b2<*hq1,403,?_];show#[5,l1,rfl,#[_,b2.seq hl1],λpL hpL=>iH (K:=K) (λj G v=>∃s,(cs[i].2)[j]?=⇑s/\gg K (ers d (Wk.gr Hb H G)) s v) (λ_ _ _ _ z z216_=>by let#[s,z1,z2]:=z216_; show#[s,z1,z2*>(gm z).ers]) (xs:=ws) ∅ (b2.seq hl1) hpL ?_ ?_ (λ_ _ _ _ h z217_=>by let#[a,xs,e1,e2,e3,x1,r1,f1,x2,r2,f2,f3,z]:=z217_; show#[a,xs,e1,e2,e3,x1,r1,f1,x2,r2,f2,f3,h _ _ z])]
     . rintro j y G R_ hy sG ⟨acc,eacc⟩ kk;have hj:j<cs[i].2.length:=by have:=(HV.mp hy).1; lia
       have hp0:=s2.free hpL;have sH:aB H G:=s2\sG;have sb:aB Hb G:=hb\sH;have dG:G d≠none:=λz=>by rw[sG _ _ e2] at z; cases z
       have pG:G pL≠none:=λz=>by rw[eacc] at z; cases z
       let#[v,hv,q2,p2,zs,av,rfl,hq2,hp2,hz,ha]:=c8 hw (HU hj);rw[hy] at hv;cases hv;have ok2:=ok.2 _ (IT hj);have lz:=Rk2.Ps.len hz;show#[q2,5,sb<*hq2,1613,p2,zs,rfl,.inl #[sb.seq hp2,λl5 h5=>?_]];have s5:=aB.new (o:=.tup zs) h5;show#[5,bL,λb hB=>?_];have s6:=aB.new (o:=.tup [↥l5,av]) hB;have sA:=cy (Wk.gr_same (H2:=ers pL (upd (upd G l5 (.tup zs)) b (.tup [↥l5,av]))) hb) hdb;have n5p:l5≠pL:=λz=>pG (z ▸ h5);have n5d:l5≠d:=λz=>dG (z ▸ h5);have nbp:b≠pL:=λz=>pG (z ▸ s5.free hB);have nbd:b≠d:=λz=>dG (z ▸ s5.free hB);exact kk _ _ (s5\s6) #[_,HU hj,b,l5,zs,av,rfl,aG.of (by rw[ak nbd]; exact Wk.gr_new (sH.free (s5.free hB)) (by rw[ak nbp]; exact aI)),aG.of (by rw[ak n5d]; exact Wk.gr_new (sH.free h5) (by rw[ak n5p]; exact s6 _ _ aI)),Rk2.Ps.imp (λ_ _ z=>z*>sA) hz,ha*>sA]
     . rintro H3 vs s3 e3 l3 t3;have hpd:pL≠d:=λz=>by rw[z,e2] at hpL; cases hpL
       have ee:cs.take (i+1)=cs.take i++[(cs[i].1,cs[i].2)]:=by rw[IM,HU hi]; rfl
       show#[21,d,5,ci.k (k:=(Sum.inr cs[i].1:aF)) (s3 _ _ e2) (Rk2.lt_line' ∅),(s2\s3).upd hd,17,aI,?_,?_]
       . have:=Rk2.putK_len kvs (Sum.inr cs[i].1:aF) (V.ref pL)
         lia
       . rw[vA,ee];exact n2.put (gm s3).ers (by rw[ak hpd]; exact Wk.gr_new (s2.free hpL) e3) (jT ∅ λj v hv=>by let#[s,z1,z2]:=t3 j v hv; show#[s,z1,z2*>(gm bO).ers]) (w9 nd (HU hi))
   . rintro σ H2 ⟨s2,v2,v3,kvs,rfl,e2,l2,n2⟩;rw[lu,IP] at n2;show#[5,q d H2 s2 #[kvs,Wk.gr_new hd e2,λg ss m=>?_]];let#[l,ws,a,b,c]:=n2 g ss m;show#[l,ws,a,bO _ _ b,Rk2.Ps.imp (λ_ _ z=>z*>bO) c]
def nF:FnScope ["table","found","name","marks"] ["table"] (aS kI):=by walk_at "s"
def F9 (T:Txt K mg t):FnOk P w K mg base CX0 1 t.xx t.zB ["table"] (Gw K):=by
 refine T.marks_by_name.F.ok nF (λvs H Q E h=>?_) (λcdv A outer s H vs Q E hr h=>?_)
 . obtain⟨v,ms,Hb,rfl,hb,⟨p,us,rfl,hp,hu⟩,nd,hl,hk,q⟩:=h;rfl
 . skip
   refine lx ?_;intro XX;refine(let W2:TS:=_; have hW2:aO XX ((aP kI).drop 2) W2:=(~~~(aA 1)); ?_);obtain⟨v,ms,Hb,rfl,hb,⟨p,us,rfl,hp,hu⟩,nd,hl,hk,q⟩:=h;show#[_,(aJ (pS 1 nF.nd dy) (aJ (bu PassesOwn.never rfl (d7 (aA 0)) (cx rfl (bK (aY (i:=2) nF.nd rfl 0x4) (bK (aY (i:=3) nF.nd rfl 0x4) ck))) (@aK _ _ _ (dQ (bY hr.units) (aA 1) (aA 2) (dN (N':=["chain","views"]) (js:=[none,none]) (by kernel_rfl) rfl (d7 (aA 3)) (og (io (io qo))) (λ_ _ _ _=>(show PG _ _ (jr K 2 _) from cx (n:=2) rfl (bK (aY (i:=0) (show(["chain","views"]:List Str).Nodup by decide +kernel) rfl 0x4 (.inr rfl)) (bK (aY (i:=1) (show(["chain","views"]:List Str).Nodup by decide +kernel) rfl 0x4 (.inr rfl)) ck)))) (λ_ _ _ _=>cr) (λ_ _ _ _=>(bD (aA 0>=>(dN (N':=["places"]) (js:=[none]) (by kernel_rfl) rfl (FI (λK=>sS K _) rfl (d7 (aA 1))) dH (λ_ _ _ _=>(aY (i:=0) (show(["places"]:List Str).Nodup by decide +kernel) rfl 0x4 (.inr rfl))) (λ_ _ _ _=>cr) (λ_ _ _ _=>(dk (show aw _ (.type "tuple") (uF K) from jH) 0x0 T.b_tuple gW (aA 0>=>aD))))>=>aD)))) 0x0))) @hW2)),?_];have lu:=Rk2.Ps.len hu;refine λd hd=>?_;have hdb:Hb d=none:=hb.free hd;have s0:=aB.new (o:=.dK []) hd;show#[5,p,rfl,#[_,(hb\s0).seq hp],(let Jv1:Nat->St->Hp->Prop:=λi σ H2=>aB H H2/\∃v2 v3 kvs,σ=[⇑↥p,⇑↥d,v2,v3]/\H2 d=⇑(.dK kvs)/\kvs.length<=i/\nU K (ers d (Wk.gr Hb H H2)) kvs (ms.take i); gP (xs:=us) Jv1 #[s0,17,aI,HY _,λ_ _ m=>by simp at m] ?_ ?_ ?_)]
   . rintro i σ H2 hi ⟨s2,_⟩;exact(hb\s2).seq hp
   . rintro i x σ H2 hx ⟨s2,v2,v3,kvs,rfl,e2,l2,n2⟩;have hi:i<ms.length:=by have:=(HV.mp hx).1; lia
     let#[v,hv,q1,l1,ws,rfl,hq1,hl1,hw]:=c8 hu (HU hi);rw[hx] at hv;cases hv;have ok:=hk _ (IT hi);have lw:=Rk2.Ps.len hw;have b2:=hb\s2;show#[q1,5,b2<*hq1,403,?_];show#[5,l1,rfl,#[_,b2.seq hl1],λpL hpL=>iH (K:=K) (λj G v=>∃s,(ms[i].2)[j]?=⇑s/\gp K (ers d (Wk.gr Hb H G)) s v) (λ_ _ _ _ z z218_=>by let#[s,z1,z2]:=z218_; show#[s,z1,z2*>(gm z).ers]) (xs:=ws) ∅ (b2.seq hl1) hpL ?_ ?_ (λ_ _ _ _ h z219_=>by let#[a,xs,e1,e2,e3,x1,r1,f1,x2,r2,f2,f3,z]:=z219_; show#[a,xs,e1,e2,e3,x1,r1,f1,x2,r2,f2,f3,h _ _ z])]
     . rintro j y G R_ hy sG ⟨acc,eacc⟩ kk;have hj:j<ms[i].2.length:=by have:=(HV.mp hy).1; lia
       have hp0:=s2.free hpL;have sH:aB H G:=s2\sG;have sb:aB Hb G:=hb\sH;have dG:G d≠none:=λz=>by rw[sG _ _ e2] at z; cases z
       have pG:G pL≠none:=λz=>by rw[eacc] at z; cases z
       let#[v,hv,q2,c2,l5,zs,rfl,hq2,hc2,hl5,hz]:=c8 hw (HU hj);rw[hy] at hv;cases hv;have ok2:=ok.2 _ (IT hj);have lz:=Rk2.Ps.len hz;show#[q2,5,sb<*hq2,6453,l5,rfl,#[_,sb.seq hl5],λpM hpM=>iH (K:=K) (λn G v=>∃s,(ms[i].2[j].vs)[n]?=⇑s/\jy K (ers d (Wk.gr Hb H (ers pL G))) s v) (λ_ _ _ _ z z220_=>by let#[s,z1,z2]:=z220_; show#[s,z1,z2*>(gm z.ers).ers]) (xs:=zs) ∅ (sb.seq hl5) hpM ?_ ?_]
       . rintro n y2 G2 R2 hy2 sG2 ⟨acc2,eacc2⟩ kk2;have hn:n<ms[i].2[j].vs.length:=by have:=(HV.mp hy2).1; lia
         let#[v,hv,q3,ys,rfl,hq3,hys]:=c8 hz (HU hn);rw[hy2] at hv;cases hv;show#[5,q3,ys,rfl,.inl #[(sb\sG2).seq hq3,λl6 h6=>?_]];have s6:=aB.new (o:=.tup ys) h6;have sA:=cy (Wk.gr_same (H2:=ers pL (ers pM (upd G2 l6 (.tup ys)))) hb) hdb;have n6p:l6≠pL:=λz=>pG (z ▸ sG2.free h6);have n6d:l6≠d:=λz=>dG (z ▸ sG2.free h6);have n6m:l6≠pM:=λz=>by rw[z,eacc2] at h6; cases h6
         exact kk2 _ _ s6 #[_,HU hn,l6,ys,rfl,aG.of (by rw[ak n6d]; exact Wk.gr_new (sH.free (sG2.free h6)) (by rw[ak n6p,ak n6m]; exact aI)),Rk2.Ps.imp (λ_ _ z=>bp.mono sA z) hys]
       . rintro H4 vs4 s4 e4 l4 t4;show#[bL,λb hB=>?_];have s6:=aB.new (o:=.tup [↥c2,↥pM]) hB;have sA:=cy (Wk.gr_same (H2:=ers pL (upd H4 b (.tup [↥c2,↥pM]))) hb) hdb;have nmp:pM≠pL:=λz=>pG (z ▸ hpM);have nmd:pM≠d:=λz=>dG (z ▸ hpM);have nbp:b≠pL:=λz=>pG (z ▸ s4.free hB);have nbd:b≠d:=λz=>dG (z ▸ s4.free hB);have sB:aB (ers d (Wk.gr Hb H (ers pL (ers pM H4)))) (ers d (Wk.gr Hb H (ers pL (upd H4 b (.tup [↥c2,↥pM]))))):=(gm (bO\s6).ers).ers;exact kk _ _ (s4\s6) #[_,HU hj,b,c2,pM,vs4,rfl,aG.of (by rw[ak nbd]; exact Wk.gr_new (sH.free (s4.free hB)) (by rw[ak nbp]; exact aI)),hc2*>sA,by rw[ak nmd]; exact Wk.gr_new (sH.free hpM) (by rw[ak nmp]; exact s6 _ _ e4),jT ∅ λn v hv=>by let#[s,z1,z2]:=t4 n v hv; show#[s,z1,z2*>sB]]
     . rintro H3 vs s3 e3 l3 t3;have hpd:pL≠d:=λz=>by rw[z,e2] at hpL; cases hpL
       have ee:ms.take (i+1)=ms.take i++[(ms[i].1,ms[i].2)]:=by rw[IM,HU hi]; rfl
       show#[21,d,5,ci.k (k:=(Sum.inr ms[i].1:aF)) (s3 _ _ e2) (Rk2.lt_line' ∅),(s2\s3).upd hd,17,aI,?_,?_]
       . have:=Rk2.putK_len kvs (Sum.inr ms[i].1:aF) (V.ref pL)
         lia
       . rw[vA,ee];exact n2.put (gm s3).ers (by rw[ak hpd]; exact Wk.gr_new (s2.free hpL) e3) (jT ∅ λj v hv=>by let#[s,z1,z2]:=t3 j v hv; show#[s,z1,z2*>(gm bO).ers]) (w9 nd (HU hi))
   . rintro σ H2 ⟨s2,v2,v3,kvs,rfl,e2,l2,n2⟩;rw[lu,IP] at n2;show#[5,q d H2 s2 #[kvs,Wk.gr_new hd e2,λg ss m=>?_]];let#[l,ws,a,b,c]:=n2 g ss m;show#[l,ws,a,bO _ _ b,Rk2.Ps.imp (λ_ _ z=>z*>bO) c]
def AW:FnScope ["self","function","args","first"] ["self","function","args","first"] (aS i7):=by walk_at "s"
def FB (T:Txt K mg t):FnOk P w K mg base CX0 1 t.wx t.yH ["self","function","args","first"] (F0 K t):=by
 refine T.wo.F.ok AW (λvs H Q E h=>?_) (λcdv A outer s H vs Q E hr h=>?_)
 . let#[_,_,_,_,_,_,rfl,_]:=h;rfl
 . skip
   refine lx ?_;intro XX;refine(let W3:TS:=_; have hW3:aO XX ((aP i7).drop 3) W3:=(@aK _ _ _ (cN (aA 0) (aA 3) 0x0)); ?_);refine(let W2:TS:=_; have hW2:aO XX ((aP i7).drop 2) W2:=(aJ (cN (aA 0) (Cg rfl 0x0 T.b_dict 0x0 T.b_enumerate (aA 2>=>aD)) 0x0) @hW3); ?_);refine(let W1:TS:=_; have hW1:aO XX ((aP i7).drop 1) W1:=(aJ (cN (aA 0) aH 0x0) @hW2); ?_);let#[x,dx,ar,g,ys,n,rfl,h,ha,hy,q]:=h;show#[_,(aJ (cN (aA 0) (aA 1) 0x0) @hW1),?_];show#[21,x,17,h,T.cE.cl,T.ig,#[],?_];show#[5,x,17,aI,T.cE.cl,T.gY,(show(1:Nat)<1000 by decide),?_];show#[5,ar,ys,rfl,aB.seq ?_ ha,∅,λd H' nd s' e'=>?_]
   . rw[et]; exact pO
   have ndx:d≠x:=λz=>by rw[z,aI] at nd; cases nd
   rw[et] at nd s';rw[aM ndx] at nd;show#[5,x,17,s' _ _ aI,T.cE.cl,T.gy,(show(2:Nat)<1000 by decide),?_];show#[21,x,17,aI,T.cE.cl,T.eX,(show(3:Nat)<1000 by decide),?_];rw[et];exact q d _ nd ((pO\s').upd iE) #[aI,by rw[aM ndx]; exact e']
def zk:FnScope ["self","reckonings"] ["self","reckonings"] (aS nj):=by walk_at "s"
def tR (T:Txt K mg t):FnOk P w K mg base CX0 12 t.wy t.yI ["self","reckonings"] (Eh K t):=by
 have Qd:FnOk P w K mg base CX0 11 t.lS t.lV ["one","boxes"] (nC K 10):=oZ T 10;refine T.lI.F.ok zk (λvs H Q E h=>?_) (λcdv A outer s H vs Q E hr h=>?_)
 . let#[_,_,_,_,rfl,_]:=h;rfl
 . let#[f,l,us,ts,rfl,h,hl,hu,ht,dv,hn,q]:=h;show#[_,(aJ (@aR _ _ _ _ (dN (N':=["one","self"]) (js:=[none,some 0]) (by kernel_rfl) rfl (d7 (aA 1)) dH (λ_ _ _ _=>(aY (i:=0) (show(["one","self"]:List Str).Nodup by decide +kernel) rfl 0x4 (.inr rfl))) (λ_ _ _ _=>cr) (λ_ _ _ _=>(cD T.worth Qd hr (aA 0>=>(CM (K:=K) rfl (aA 1) 0x0)>=>aD))))) ac),?_];have lu:=Rk2.Ps.len hu;show#[5,l,rfl,#[_,hl],λp hp=>iH (K:=K) (λi G v=>∃u,ts[i]?=⇑u/\v=.int (Rk2.wv (Rk2.fOf f.kvs) u)) (λ_ _ _ _ _ z=>z) (xs:=us) ∅ hl hp ?_ ?_]
   . rintro i x G R_ hx sG ⟨acc,eacc⟩ kk;have hi:i<ts.length:=by have:=(HV.mp hx).1; lia
     let#[v,hv,hR]:=c8 hu (HU hi);rw[hx] at hv;cases hv;have ok:=ht _ (IT hi);have h2:FrAt t G f:=#[sG _ _ h.o,sG _ _ h.n]
     show#[21,f.a,33,h2.o,T.cE.cl,T.gy,6,x,f.bx,f.kvs,rfl,ok.1,hR*>sG,h2.n,dv,ok.2,kk _ _ (aB.refl _) #[_,HU hi,rfl]]
   . rintro G vs sG eG lG tG;have e:vs=(ts.map (Rk2.wv (Rk2.fOf f.kvs))).map V.int:=by
       apply List.ext_getElem?;intro i;rw[Iq,Hk];cases hv:vs[i]? with
       | none =>
         have:ts[i]?=none:=by rw[JZ] at hv ⊢; lia
         rw[this]; rfl
       | some v =>
         let#[u,h1,h2]:=tG i v hv;rw[h1,h2]; rfl
     rw[e] at eG;exact q p G sG hp eG
def HG:FnScope ["self","box","number"] ["self","box","number"] (aS oO):=by walk_at "s"
def pP (T:Txt K mg t):FnOk P w K mg base CX0 1 t.ww t.yG ["self","box","number"] (GE K t):=by
 refine T.iS.F.ok HG (λvs H Q E h=>?_) (λcdv A outer s H vs Q E hr h=>?_)
 . let#[_,_,_,rfl,_]:=h;rfl
 . let#[f,b,z,rfl,h,hl,q]:=h;show#[_,(aJ (af (eQ (i0 (aA 1))) (@aK _ _ _ (dQ (bY hr.units) (fD (aA 0)) (aA 1) (aA 2) 0x0)) ac) ac),?_];cases b with
   | none=>show#[21,eg (q H bO h.n)]
   | some k =>
     show#[21,jq ?_];show#[21,f.a,33,h.o,T.cE.cl,T.gy,13,f.bx,5,ci.k (k:=(Sum.inl k:aF)) h.n (Rk2.lt_line' ∅),?_];exact q _ (λb o e=>by rw[aM (λz=>by rw[z] at e; unfold L2.ers at e; rw[He rfl] at e; cases e)]; exact bO _ _ e) aI
def mr:FnScope ["self","sets","numbers","pair","number"] ["self","sets"] (aS kO):=by walk_at "s"
def uN (T:Txt K mg t):FnOk P w K mg base CX0 13 t.wu t.yF ["self","sets"] (Dv K t):=by
 have Qr:=tR (P:=P) (w:=w) (base:=base) T;have Qg:=pP (P:=P) (w:=w) (base:=base) T;refine T.lH.F.ok mr (λvs H Q E h=>?_) (λcdv A outer s H vs Q E hr h=>?_)
 . let#[_,_,_,_,rfl,_]:=h;rfl
 . skip
   refine lx ?_;intro XX;refine(let W1:TS:=_; have hW1:aO XX ((aP kO).drop 1) W1:=(@aK _ _ _ (bu PassesOwn.never rfl (pJ true false rfl T.b_zip (aA 1>=>aA 2>=>aD)) (cx rfl (bK (aY (i:=3) mr.nd rfl 0x4) (bK (aY (i:=4) mr.nd rfl 0x4) ck))) (@aK _ _ _ (@bW _ _ _ _ (bN (aA 0) T.cE.cl T.iS.m Qg (hr*>#[]) T.iS.b .nil bR ((iT K (aA 3))>=>aA 4>=>aD)) 0x0)))); ?_);let#[f,p,us,ss,rfl,h,hp,hu,ok,dv,hn,hl,q]:=h;show#[_,(aJ (pS 2 mr.nd (bN (aA 0) T.cE.cl T.lI.m Qr (hr*>#[]) T.lI.b .nil bR ((dN (N':=["pair"]) (js:=[none]) (by kernel_rfl) rfl (nO (aA 1)) dH (λ_ _ _ _=>(aY (i:=0) (show(["pair"]:List Str).Nodup by decide +kernel) rfl 0x4 (.inr rfl))) (λ_ _ _ _=>cr) (λ_ _ _ _=>(iT K (aA 0))))>=>aD))) @hW1),?_];have lu:=Rk2.Ps.len hu;show#[5,f.a,f.dx,5,h.o,13,p,rfl,#[_,bO<*hp],λpL hpL=>CJ (K:=K) (λi G v=>∃s,ss[i]?=⇑s/\Rk2.RAt G s.2 v) (λ_ _ _ _ z z221_=>by let#[s,z1,z2]:=z221_; show#[s,z1,z2*>z]) (xs:=us) ∅ (bO<*hp) hpL ?_ ?_]
   . rintro i x G R_ hx sG ⟨acc,eacc⟩ kk;have hi:i<ss.length:=by have:=(HV.mp hx).1; lia
     let#[v,hv,q1,y,rfl,hq1,hr1]:=c8 hu (HU hi);rw[hx] at hv;cases hv;show#[5,q1,35,(bO\sG)<*hq1,rfl,kk _ _ (aB.refl _) #[_,HU hi,hr1*>(bO\(cy sG hpL))]]
   rintro H3 vs s3 e3 l3 t3;show#[f,pL,vs,ss.map (·.2),rfl,#[s3 _ _ h.o,s3 _ _ h.n],aE.of e3,jT (by rw[HS]; lia) (λi v hv=>?_),(λu hu=>?_),dv,by rw[HS]; lia,λl' H4 s4 n4 e4=>?_]
   . let#[s,z1,z2]:=t3 i v hv;show#[s.2,by rw[Hk,z1]; rfl,z2*>bO]
   . let#[s,z1,rfl]:=IJ.mp hu;exact ok s z1
   have s04:=s3\s4;have nl:l'≠f.bx:=λz=>by rw[z,s3 _ _ h.n] at n4; cases n4
   have nfa:f.a≠f.bx:=λz=>by have:=h.n; rw[<- z,h.o] at this; cases this
   have e4':H4 l'=⇑(.lst ((d9 f.kvs ss).map λp=>V.int p.2)):=by rw[e4]; unfold d9; simp only[Iq]; rfl
   have ln:((d9 f.kvs ss).map λp=>V.int p.2).length=ss.length:=by unfold d9; simp
   show#[21,p,l',rfl,#[_,(bO\s04)<*hp],#[_,aE.of e4'],(let Jv1:Nat->St->Hp->Prop:=λi σ H5=>aB (ers f.bx H4) H5/\∃v3 v4,σ=[⇑↥f.a,⇑↥p,⇑↥l',v3,v4]/\H5 f.bx=⇑(.dK (gG f.kvs ((d9 f.kvs ss).take i))); qY (b1:=true) (b2:=false) (xs:=us) (ys:=(d9 f.kvs ss).map λp=>V.int p.2) Jv1 #[bO,9,s04 _ _ h.n] ?_ ?_ ?_)]
   . rintro i σ H5 hi ⟨s5,_⟩;show#[(s04.ers\s5)<*hp,aE.of (s5 _ _ (by rw[ak nl]; exact e4'))]
   . rintro i y z σ H5 b hy hz ⟨s5,v3,v4,rfl,e5⟩ hb;have hi:i<ss.length:=by have:=(HV.mp hy).1; lia
     let#[v,hv,q1,y1,rfl,hq1,hr1]:=c8 hu (HU hi);rw[hy] at hv;cases hv;have hnw:(d9 f.kvs ss)[i]?=⇑(ss[i].1,Rk2.wv (Rk2.fOf f.kvs) ss[i].2):=by unfold d9; rw[Hk,HU hi]; rfl
     rw[Hk,hnw] at hz;cases hz;have s6:=aB.new (o:=.tup [↥q1,.int (Rk2.wv (Rk2.fOf f.kvs) ss[i].2)]) hb;have hpl:=pX ((d9 f.kvs ss).take i) f.kvs;have hnl:((d9 f.kvs ss).take i).length<=1000:=by rw[IE]; lia
     show#[b,5,aG.of aI,403,?_];show#[5,f.a,f.dx,5,s6 _ _ (s5 _ _ (by rw[ak nfa]; exact s04 _ _ h.o)),13,q1,35,((s04.ers\s5).trans s6)<*hq1,13,?_];show#[{ f with kvs:=gG f.kvs ((d9 f.kvs ss).take i) },some ss[i].1,5,#[s6 _ _ (s5 _ _ (by rw[ak nfa]; exact s04 _ _ h.o)),s6 _ _ e5],by show(gG _ _).length<_; lia,λH7 s7 e7=>?_];show#[((BC s5)\s6.ers).trans s7,9,by rw[Du hnw]; exact e7]
   . rintro σ H5 ⟨s5,v3,v4,rfl,e5⟩;rw[ln,lu,Nat.min_self,show(d9 f.kvs ss).take ss.length=d9 f.kvs ss from Ic (by unfold d9; simp)] at e5;exact q _ (s04.ers\s5) e5
def Gy:FnScope ["self"] ["self"] (aS mh):=by walk_at "s"
def qD (T:Txt K mg t):FnOk P w K mg base CX0 1 t.xM t.yd ["self"] (An K t):=by
 refine T.ib.F.ok Gy (λvs H Q E h=>?_) (λcdv A outer s H vs Q E hr h=>?_)
 . let#[_,_,_,_,_,_,_,_,rfl,_]:=h;rfl
 . let#[w,wt,fs,oc,sent,cn,wl,Hb,rfl,h,hl,q]:=h;show#[_,(aJ (@aR _ _ _ _ (gQ bB (az 0x1 0x0 T.b_len bV ((fD (aA 0))>=>aD)) aH (ag _))) ac),?_];show#[5,w.a,33,h.o,T.aZ.cl,T.eI,rfl,w.st,5,.inl (aE.of h.st),rfl,?_];have e:decide (V.int ((fs.map λf:Fm=>V.ref f.a).length:Int)=V.int 0)=decide (fs=[]):=decide_eq_decide.mpr #[λz=>by have:=V.int.inj z; rw[HS] at this; exact JJ.mp ∅,λz=>by rw[z]; rfl];show Q (.bl (decide _)) H;rw[e];exact q
def EI:FnScope ["self"] ["self"] (aS nA):=by walk_at "s"
def GH (T:Txt K mg t):FnOkH P w K mg base 1 t.rP t.rR ["self"] (tJ K t):=by
 refine T.rJ.F.okH EI (λvs H Q E h=>?_) (λcdv A outer s H vs Q E hr h=>?_)
 . let#[_,_,_,_,_,_,_,_,rfl,_]:=h;rfl
 . let#[w,wt,fs,oc,sent,cn,wl,Hb,rfl,h,q]:=h;show#[_,(aJ (@aR _ _ _ _ (fD (aA 0))) ac),?_];show#[5,w.a,33,h.o,T.aZ.cl,T.ij,rfl,q]
def FV:FnScope ["self","level"] ["self","level"] (aS oI):=by walk_at "s"
def ji (T:Txt K mg t):FnOk P w K mg base CX0 1 t.xD t.yR ["self","level"] (zt K t):=by
 refine T.fS.F.ok FV (λvs H Q E h=>?_) (λcdv A outer s H vs Q E hr h=>?_)
 . obtain⟨w,wt,fs,wl,fns,cs,ms,Hb,i,f,rfl,⟨oc,sent,cn,h,D,l1,l2⟩,ow,q⟩:=h;rfl
 . obtain⟨w,wt,fs,wl,fns,cs,ms,Hb,i,f,rfl,⟨oc,sent,cn,h,D,l1,l2⟩,ow,q⟩:=h;show#[_,(aJ (@aR _ _ _ _ (@iA _ _ _ _ _ _ _ _ (ao (ay jJ) (aA 1) (az 0x1 0x0 T.b_len bV ((fD (aA 0))>=>aD)) (ag _)) (iY K (fD (aA 0)) (aA 1)) (iY K (fD (aA 0)) (eh fE aH)))) ac),?_];show#[21,w.a,33,h.o,T.aZ.cl,T.fT,rfl,wt,wl,rfl,.inl (aE.of h.wts),77,?_];rcases ow.2 with e|⟨e,fs0,rfl⟩
   . have hi:=(HV.mp e).1;exact ah (Hf ∅) #[5,w.a,33,h.o,T.aZ.cl,T.fT,13,wt,wl,19,aE.of h.wts,bv e,q]
   . refine aa (λz=>by have:=Ij z; lia) #[5,w.a,33,h.o,T.aZ.cl,T.eI,13,w.st,35,aE.of h.st,?_,q];rw[Hq];exact qg _ _
def E4:FnScope ["self","frame"] ["self","frame"] (aS lj):=by walk_at "s"
def vT (T:Txt K mg t):FnOk P w K mg base CX0 1 t.xG t.yU ["self","frame"] (DP K t):=by
 refine T.lN.F.ok E4 (λvs H Q E h=>?_) (λcdv A outer s H vs Q E hr h=>?_)
 . obtain⟨w,wt,fs,wl,fns,cs,ms,Hb,f,s,rfl,⟨oc,sent,cn,h,D,l1,l2⟩,hf,⟨ss,hs1,hs2⟩,q⟩:=h;rfl
 . obtain⟨w,wt,fs,wl,fns,cs,ms,Hb,f,s,rfl,⟨oc,sent,cn,h,D,l1,l2⟩,hf,⟨ss,hs1,hs2⟩,q⟩:=h;show#[_,(aJ (@aR _ _ _ _ (iY K (eE (bY hr.units) (fD (aA 0)) (fD (aA 1)) 0x5) (fD (aA 1)))) ac),?_];let#[kvs,e1,e2]:=D.sp;let#[l,us,a1,a2,a3]:=e2 _ _ hs1;let#[v,hv,hs]:=c8 a3 hs2;show#[5,w.a,33,h.o,T.aZ.cl,T.jb,13,f.a,33,(h.fr hf).1,T.cE.cl,T.ig,25,Wk.dget_of (h.b _ _ e1) a1,5,f.a,33,(h.fr hf).1,T.cE.cl,T.gY,rfl,l,us,_,v,7,aE.of (h.b _ _ a2),bv hv,q v hs]
def C':FnScope ["self","frame"] ["self","frame"] (aS oQ):=by walk_at "s"
def oS (T:Txt K mg t):FnOk P w K mg base CX0 1 t.xB t.yP ["self","frame"] (GP K t):=by
 refine T.iV.F.ok C' (λvs H Q E h=>?_) (λcdv A outer s H vs Q E hr h=>?_)
 . obtain⟨w,wt,fs,wl,fns,cs,ms,Hb,f,m,rfl,⟨oc,sent,cn,h,D,l1,l2⟩,hf,⟨ss,hs1,hs2⟩,q⟩:=h;rfl
 . obtain⟨w,wt,fs,wl,fns,cs,ms,Hb,f,m,rfl,⟨oc,sent,cn,h,D,l1,l2⟩,hf,⟨ss,hs1,hs2⟩,q⟩:=h;show#[_,(aJ (@aR _ _ _ _ (iY K (eE (bY hr.units) (fD (aA 0)) (fD (aA 1)) 0x5) (fD (aA 1)))) ac),?_];let#[kvs,e1,e2]:=D.mp;let#[l,us,a1,a2,a3]:=e2 _ _ hs1;let#[v,hv,hs]:=c8 a3 hs2;show#[5,w.a,33,h.o,T.aZ.cl,T.ja,13,f.a,33,(h.fr hf).1,T.cE.cl,T.ig,25,Wk.dget_of (h.b _ _ e1) a1,5,f.a,33,(h.fr hf).1,T.cE.cl,T.gY,rfl,l,us,_,v,7,aE.of (h.b _ _ a2),bv hv,q v hs]
def Gd:FnScope ["self","frame"] ["self","frame"] (aS oF):=by walk_at "s"
def ph (T:Txt K mg t):FnOk P w K mg base CX0 2 t.x4 t.yK ["self","frame"] (Ca K t):=by
 have Qh:=oS (P:=P) (w:=w) (base:=base) T;refine T.iU.F.ok Gd (λvs H Q E h=>?_) (λcdv A outer s H vs Q E hr h=>?_)
 . let#[_,_,_,_,_,_,_,_,_,_,rfl,_]:=h;rfl
 . let#[w,wt,fs,wl,fns,cs,ms,Hb,f,m,rfl,W,hf,hm,q]:=h;show#[_,(aJ (@aR _ _ _ _ (iT K (bN (aA 0) T.aZ.cl T.iV.m Qh (hr*>#[]) T.iV.b .nil bR (aA 1>=>aD)))) ac),?_];have W2:=W;let#[oc,sent,cn,h,D,l1,l2]:=W2;show#[5,w.a,9,h.o,13,w,wt,fs,wl,fns,cs,ms,Hb,f,m,rfl,W,hf,hm,λv hv=>?_];let#[qa,c,l,us,rfl,a1,a2,a3,a4]:=hv;show#[qa,35,h.b<*a1,rfl,q c a2]
def ql:FnScope ["self","level","frame","chain"] ["self","level"] (aS i6):=by walk_at "s"
def ub (T:Txt K mg t):FnOk P w K mg base CX0 3 t.xF t.yT ["self","level"] (Dl K t):=by
 have Qa:=ji (P:=P) (w:=w) (base:=base) T;have Qi:=ph (P:=P) (w:=w) (base:=base) T;have Qj:=qD (P:=P) (w:=w) (base:=base) T;refine T.lL.F.ok ql (λvs H Q E h=>?_) (λcdv A outer s H vs Q E hr h=>?_)
 . let#[_,_,_,_,_,_,_,_,_,rfl,_]:=h;rfl
 . skip
   refine lx ?_;intro XX;refine(let W3:TS:=_; have hW3:aO XX ((aP i6).drop 3) W3:=(~~~(@iA _ _ _ _ _ _ _ _ (ao (ay jJ) (ay fq<$>aA 1<*>(fD (aA 2))) (az 0x1 0x0 T.b_len bV (aA 3>=>aD)) (ag _)) (iX K (aA 3) (ay fq<$>aA 1<*>(fD (aA 2)))) eP)); ?_);refine(let W2:TS:=_; have hW2:aO XX ((aP i6).drop 2) W2:=(aJ (pS 3 ql.nd (bN (aA 0) T.aZ.cl T.iU.m Qi (hr*>#[]) T.iU.b .nil bR (aA 2>=>aD))) @hW3); ?_);refine(let W1:TS:=_; have hW1:aO XX ((aP i6).drop 1) W1:=(aJ (pS 2 ql.nd (bN (aA 0) T.aZ.cl T.fS.m Qa (hr*>#[]) T.fS.b .nil bR (aA 1>=>aD))) @hW2); ?_);let#[w,wt,fs,wl,fns,cs,ms,Hb,z,rfl,W,q]:=h;show#[_,(aJ (af (@PW.pt _ _ _ (dP (ao (ay jJ) (aA 1) aH (ag _)) (eZ (cM (gw (aA 0) T.aZ.cl T.ib.m Qj (hr*>#[]) T.ib.b .nil bR))))) (~~~eP) ac) @hW1),?_];have W2:=W;let#[oc,sent,cn,h,D,l1,l2]:=W2;rcases q with⟨i,f,m,p,pl,rfl,L,hm,q⟩|⟨hz,q⟩
   . have hf:=L.ow.1;have fi:=L.fi;have ei:(i:Int) - (f.first:Int)=((i - f.first:Nat):Int):=by lia
     show#[333,aa (λz=>by have:=Ij z; lia) ?_];show#[5,w.a,9,h.o,rfl,w,wt,fs,oc,sent,cn,wl,Hb,rfl,h,l2,5,aa (λz=>by have:=Ij z; rw[this] at hf; cases hf) ?_];show#[5,w.a,9,h.o,13,w,wt,fs,wl,fns,cs,ms,Hb,i,f,rfl,W,L.ow,?_];show#[5,w.a,9,h.o,13,w,wt,fs,wl,fns,cs,ms,Hb,f,m,rfl,W,hf,L.ma,λc hc=>?_];let#[us,hu1,hu2]:=hc;let#[v,hv,hs]:=c8 hu2 L.at_;have lu:=Rk2.Ps.len hu2;have hlt:=(HV.mp hv).1;show#[21,f.a,33,(h.fr hf).1,T.cE.cl,T.eX,205,c,us,rfl,.inr (h.b<*hu1),77,ah (Hf (by rw[ei]; lia)) ?_];show#[85,f.a,33,(h.fr hf).1,T.cE.cl,T.eX,51,c,us,_,v,7,h.b<*hu1,by rw[ei]; exact bv hv,q v hs]
   . by_cases z0:z<0
     . show#[333,ah (Hf z0) q]
     show#[333,aa (λz=>z0 (Ij z)) ?_];by_cases f0:fs=[]
     . show#[5,w.a,9,h.o,rfl,w,wt,fs,oc,sent,cn,wl,Hb,rfl,h,l2,5,ah (Hf f0) q]
     show#[5,w.a,9,h.o,rfl,w,wt,fs,oc,sent,cn,wl,Hb,rfl,h,l2,5,aa (λz=>f0 (Ij z)) ?_];let#[i,f,m,rfl,ow,ma,fi,hc,hm]:=(hz.resolve_left z0).resolve_left f0;have hf:=ow.1;show#[5,w.a,9,h.o,13,w,wt,fs,wl,fns,cs,ms,Hb,i,f,rfl,W,ow,?_];show#[5,w.a,9,h.o,13,w,wt,fs,wl,fns,cs,ms,Hb,f,m,rfl,W,hf,ma,λc hc2=>?_];let#[us,hu1,hu2]:=hc2;have lu:=Rk2.Ps.len hu2;show#[21,f.a,33,(h.fr hf).1,T.cE.cl,T.eX,205,c,us,rfl,.inr (h.b<*hu1),77,aa (λz=>by have:=Ij z; lia) q]
def Da:FnScope ["self","level"] ["self","level"] (aS mX):=by walk_at "s"
def pU (T:Txt K mg t):FnOk P w K mg base CX0 4 t.xP t.yg ["self","level"] (Dh K t):=by
 have Qs:=ub (P:=P) (w:=w) (base:=base) T;refine T.ic.F.ok Da (λvs H Q E h=>?_) (λcdv A outer s H vs Q E hr h=>?_)
 . let#[_,_,_,_,_,_,_,_,_,_,_,_,_,_,rfl,_]:=h;rfl
 . let#[w,wt,fs,wl,fns,cs,ms,Hb,i,f,m,p,pl,F,rfl,W,L,hm,hF,hp,hn,q]:=h;show#[_,(aJ (@aR _ _ _ _ (pQ (bY hr.units) (fD (fD (aA 0))) (iT K (bN (aA 0) T.aZ.cl T.lL.m Qs (hr*>#[]) T.lL.b .nil bR (aA 1>=>aD))) (bD aD) #[31])) ac),?_];have W0:=W;let#[oc,sent,cn,h,D,l1,l2]:=W0;have hf:=L.ow.1;have fi:=L.fi;have ei:(i:Int) - (f.first:Int)=((i - f.first:Nat):Int):=by lia
   obtain⟨nl,⟨dx,fz,d,kvs,g1,g2,g3,g4⟩,g5⟩:=Wk.fl_names D.fl hF;show#[5,w.a,33,h.o,T.aZ.cl,T.ii,rfl,w.fl,t.bq,dx,9,h.b _ _ g1,T.dR.cl,T.ik,g2,d,rfl,.inl #[_,Rd.of (h.b _ _ g3)],5,w.a,9,h.o,13,w,wt,fs,wl,fns,cs,ms,Hb,i,rfl,W,.inl #[i,f,m,p,pl,rfl,L,hm,λv hv=>?_]];let#[qa,rfl,hq]:=hv;show#[qa,35,h.b<*hq,rfl,cO,λb hb=>#[_,Wk.dget_of ((aB.new hb) _ _ (h.b _ _ g3)) (by rw[hp]; exact g4),q nl _ (aB.new hb) g5 ((aB.new hb) _ _ (h.b _ _ g5))]]
def D0:FnScope ["self","level"] ["self","level"] (aS mq):=by walk_at "s"
def qh (T:Txt K mg t):FnOk P w K mg base (c9 P w) 4 t.xK t.yY ["self","level"] (E9 K t):=by
 have Qs:=ub (P:=P) (w:=w) (base:=base) T;refine T.ia.F.okE D0 (λvs H Q E h=>?_) (λcdv A outer s H vs Q E hr h=>?_)
 . let#[_,_,_,_,_,_,_,_,_,rfl,_]:=h;rfl
 . let#[w,wt,fs,wl,fns,cs,ms,Hb,z,rfl,W,q]:=h;show#[_,(aJ (af (eQ (ip (bN (aA 0) T.aZ.cl T.lL.m Qs (hr*>#[]) T.lL.b .nil bR (aA 1>=>aD)))) (@aK _ _ _ (qd T.x_nN T.i0_nN rfl pc)) ac) ac),?_];have W0:=W;let#[oc,sent,cn,h,D,l1,l2]:=W0;show#[5,w.a,9,h.o,13,w,wt,fs,wl,fns,cs,ms,Hb,z,rfl,W,?_];rcases q with⟨i,f,m,p,pl,rfl,L,hm,q⟩|⟨hz,q⟩
   . refine .inl #[i,f,m,p,pl,rfl,L,hm,λv hv=>?_];let#[qa,rfl,hq]:=hv;show#[5,eg q]
   . exact .inr #[hz,5,jq (q H (aB.refl _))]
def FW:FnScope ["self","level","name"] ["self","level","name"] (aS me):=by walk_at "s"
def tF (T:Txt K mg t):FnOk P w K mg base (c9 P w) 5 t.xL t.yZ ["self","level","name"] (F' K t):=by
 have Qk:=qh (P:=P) (w:=w) (base:=base) T;have Ql:=pU (P:=P) (w:=w) (base:=base) T;refine T.lO.F.okE FW (λvs H Q E h=>?_) (λcdv A outer s H vs Q E hr h=>?_)
 . let#[_,_,_,_,_,_,_,_,_,_,rfl,_]:=h;rfl
 . let#[w,wt,fs,wl,fns,cs,ms,Hb,z,n,rfl,W,q]:=h;show#[_,(aJ (@bW _ _ _ _ (bN (aA 0) T.aZ.cl T.ia.m Qk (hr*>#[]) T.ia.b .nil jt (aA 1>=>aD)) 0x0) (@aK _ _ _ (af (ao su (aA 2) (bN (aA 0) T.aZ.cl T.ic.m Ql (hr*>#[]) T.ic.b .nil bR (aA 1>=>aD)) (by with_unfolding_all rfl)) (@aK _ _ _ (qd T.x_nN T.i0_nN rfl pc)) ac))),?_];have W0:=W;let#[oc,sent,cn,h,D,l1,l2]:=W0;show#[5,w.a,9,h.o,13,w,wt,fs,wl,fns,cs,ms,Hb,z,rfl,W,?_];rcases q with⟨i,f,m,p,pl,F,rfl,L,q1,q2⟩|⟨hz,q⟩
   . refine .inl #[i,f,m,p,pl,rfl,L.lv,L.c,?_];show#[21,w.a,9,h.o,13,w,wt,fs,wl,fns,cs,ms,Hb,i,f,m,p,pl,F,rfl,W,L.lv,L.c,L.fn,L.nm,Hu L.n1 #[],λnl H1 s1 _ e1=>#[nl,5,.inl (aE.of e1),rfl,qc _,5,?_]];by_cases hin:n∈F2.nms F
     . exact aa (by rw[He rfl,vR hin]; decide) (q1 hin H1 s1)
     . exact ah (by rw[He rfl,wZ hin]; rfl) (q2 hin H1 s1)
   . exact .inr #[hz,q]
def qE:FnScope ["self","level","name","frame","views"] ["self","level","name"] (aS iQ):=by walk_at "s"
def qO (T:Txt K mg t):FnOk P w K mg base (c9 P w) 6 t.xE t.yS ["self","level","name"] (Az K t):=by
 have Qt:=tF (P:=P) (w:=w) (base:=base) T;have Qa:=ji (P:=P) (w:=w) (base:=base) T;have Qh:=oS (P:=P) (w:=w) (base:=base) T;have Ql:=pU (P:=P) (w:=w) (base:=base) T;refine T.iZ.F.okE qE (λvs H Q E h=>?_) (λcdv A outer s H vs Q E hr h=>?_)
 . let#[_,_,_,_,_,_,_,_,_,_,rfl,_]:=h;rfl
 . skip
   refine lx ?_;intro XX;refine(let W3:TS:=_; have hW3:aO XX ((aP iQ).drop 3) W3:=(~~~(iX K (iY K (aA 4) (ay fq<$>aA 1<*>(fD (aA 3)))) (cU Ht PySem.F.slot_list_index PySem.F.type_list_index Ay (bN (aA 0) T.aZ.cl T.ic.m Ql (hr*>#[]) T.ic.b .nil bR (aA 1>=>aD)) (aA 2>=>aD)))); ?_);refine(let W2:TS:=_; have hW2:aO XX ((aP iQ).drop 2) W2:=(aJ (pS 4 qE.nd (iT K (bN (aA 0) T.aZ.cl T.iV.m Qh (hr*>#[]) T.iV.b .nil bR (aA 3>=>aD)))) @hW3); ?_);refine(let W1:TS:=_; have hW1:aO XX ((aP iQ).drop 1) W1:=(aJ (pS 3 qE.nd (bN (aA 0) T.aZ.cl T.fS.m Qa (hr*>#[]) T.fS.b .nil bR (aA 1>=>aD))) @hW2); ?_);let#[w,wt,fs,wl,fns,cs,ms,Hb,z,n,rfl,W,q]:=h;show#[_,(aJ (@bW _ _ _ _ (bN (aA 0) T.aZ.cl T.lO.m Qt (hr*>#[]) T.lO.b .nil jt (aA 1>=>aA 2>=>aD)) 0x0) @hW1),?_];have W0:=W;let#[oc,sent,cn,h,D,l1,l2]:=W0;show#[5,w.a,9,h.o,53,w,wt,fs,wl,fns,cs,ms,Hb,z,n,rfl,W,?_];rcases q with⟨i,f,m,p,pl,F,rfl,LF,q1,q2⟩|⟨hz,q⟩
   . refine .inl #[i,f,m,p,pl,F,rfl,LF,λhin H1 s1=>?_,q2];have L:=LF.lv;have hf:=L.ow.1;have fi:=L.fi;have ei:(i:Int) - (f.first:Int)=((i - f.first:Nat):Int):=by lia
     obtain⟨o,ho⟩:∃o,pl[(F2.nms F).idxOf n]?=⇑o:=#[_,HU (by rw[LF.pn]; exact J3 hin)]
     have q:=q1 hin o ho;have W1:=W.keep s1;have W0:=W1;let#[oc1,sent1,cn1,h1,D1,_]:=W0;show#[5,w.a,9,h1.o,13,w,wt,fs,wl,fns,cs,ms,Hb,i,f,rfl,W1,L.ow,?_];show#[5,w.a,9,h1.o,13,w,wt,fs,wl,fns,cs,ms,Hb,f,m,rfl,W1,hf,L.ma,λv hv=>?_];let#[qa,c,l,us,rfl,a1,a2,a3,a4]:=hv;show#[qa,35,h1.b<*a1,rfl,?_];let#[v1,hv1,q2,us2,rfl,b1,b2]:=c8 a4 L.pl_;let#[v2,hv2,hP]:=c8 b2 ho;have hlt:=J3 hin;show#[85,f.a,33,(h1.fr hf).1,T.cE.cl,T.eX,51,l,us,19,aE.of (h1.b _ _ a3),(by rw[ei]; exact bv hv1),5,w.a,9,h1.o,13,w,wt,fs,wl,fns,cs,ms,Hb,i,f,m,p,pl,F,rfl,W1,L,LF.c,LF.fn,LF.nm,Hu LF.n1 #[],λnl H2 s2 _ e2=>?_];show#[.inl #[6,aE.of e2],5,nl,4,(F2.nms F).idxOf n,7,aE.of e2,rfl,qc _,by have:=LF.n1; lia,Es hin,Dk,q2,us2,19,(h1.b\s2)<*b1,bv hv2,q v2 H2 (s1\s2) hP]
   . exact .inr #[hz,q]
def uv:FnScope ["self","level","name","found"] ["self","level","name"] (aS oN):=by walk_at "s"
def C9 (T:Txt K mg t):FnOk P w K mg base CX0 12 t.xH t.yV ["self","level","name"] (zd K t):=by
 have Qd:FnOk P w K mg base CX0 11 t.lS t.lV ["one","boxes"] (nC K 10):=oZ T 10;have Qm:=qO (P:=P) (w:=w) (base:=base) T;have Qa:=ji (P:=P) (w:=w) (base:=base) T;refine T.rG.F.ok uv (λvs H Q E h=>?_) (λcdv A outer s H vs Q E hr h=>?_)
 . let#[_,_,_,_,_,_,_,_,_,_,_,_,_,_,_,_,rfl,_]:=h;rfl
 . let#[w,wt,fs,wl,fns,cs,ms,Hb,i,f,m,p,pl,F,n,o,rfl,W,LF,hin,ho,q]:=h;show#[_,(aJ (pS 3 uv.nd (bN (aA 0) T.aZ.cl T.iZ.m Qm (hr*>#[]) T.iZ.b .nil gL (aA 1>=>aA 2>=>aD))) (~~~(@iA _ _ _ _ _ _ _ _ (eQ (ip (aA 3))) eP (cD T.worth Qd hr (aA 3>=>(fD (bN (aA 0) T.aZ.cl T.fS.m Qa (hr*>#[]) T.fS.b .nil bR (aA 1>=>aD)))>=>aD))))),?_];have W0:=W;let#[oc,sent,cn,h,D,l1,l2]:=W0;have hf:=LF.lv.ow.1;show#[5,w.a,9,h.o,53,w,wt,fs,wl,fns,cs,ms,Hb,i,n,rfl,W,.inl #[i,f,m,p,pl,F,rfl,LF,λ_ o2 ho2 v H1 s1 hv=>?_,λhno=>absurd hin hno]];rw[ho] at ho2;cases ho2;have W1:=W.keep s1;have W0:=W1;let#[oc1,sent1,cn1,h1,D1,_]:=W0;cases o with
   | none =>
     obtain rfl:v=.non:=hv;show#[21,jq (q H1 s1)]
   | some u =>
     have hv:Rk2.RAt Hb u v:=hv;have ok:=LF.ok u (IA ho);show#[21,aa (λz=>mY hv (Ij z)) ?_];show#[21,w.a,9,h1.o,13,w,wt,fs,wl,fns,cs,ms,Hb,i,f,rfl,W1,LF.lv.ow,f.a,33,(h1.fr hf).1,T.cE.cl,T.gy,rfl,u,v,f.bx,f.kvs,rfl,ok.1,hv*>h1.b,(h1.fr hf).2,LF.dv,ok.2,q H1 s1]
def As:FnScope ["self","level","name"] ["self","level","name"] (aS ny):=by walk_at "s"
def tH (T:Txt K mg t):FnOk P w K mg base (c9 P w) 13 t.xR t.yi ["self","level","name"] (Cp K t):=by
 have Qt:=tF (P:=P) (w:=w) (base:=base) T;have QM:=C9 (P:=P) (w:=w) (base:=base) T;refine T.lP.F.okE As (λvs H Q E h=>?_) (λcdv A outer s H vs Q E hr h=>?_)
 . let#[_,_,_,_,_,_,_,_,_,_,rfl,_]:=h;rfl
 . let#[w,wt,fs,wl,fns,cs,ms,Hb,z,n,rfl,W,q]:=h;show#[_,(aJ (@bW _ _ _ _ (bN (aA 0) T.aZ.cl T.lO.m Qt (hr*>#[]) T.lO.b .nil jt (aA 1>=>aA 2>=>aD)) 0x0) (~~~(bN (aA 0) T.aZ.cl T.rG.m QM (hr*>#[]) T.rG.b .nil bR (aA 1>=>aA 2>=>aD)))),?_];have W0:=W;let#[oc,sent,cn,h,D,l1,l2]:=W0;show#[5,w.a,9,h.o,53,w,wt,fs,wl,fns,cs,ms,Hb,z,n,rfl,W,?_];rcases q with⟨i,f,m,p,pl,F,rfl,LF,q1,q2⟩|⟨hz,q⟩
   . refine .inl #[i,f,m,p,pl,F,rfl,LF,λhin H1 s1=>?_,q2];obtain⟨o,ho⟩:∃o,pl[(F2.nms F).idxOf n]?=⇑o:=#[_,HU (by rw[LF.pn]; exact J3 hin)]
     have W1:=W.keep s1;have W0:=W1;let#[oc1,sent1,cn1,h1,D1,_]:=W0;show#[5,w.a,9,h1.o,53,w,wt,fs,wl,fns,cs,ms,Hb,i,f,m,p,pl,F,n,o,rfl,W1,LF,hin,ho,λH2 s2=>q1 hin o ho H2 (s1\s2)]
   . exact .inr #[hz,q]
def gh:FnScope ["self","level","frame","chain","views","found","k","name","place"] ["self","level"] (aS gR):=by walk_at "s"
def rm (T:Txt K mg t):FnOk P w K mg base (c9 P w) 5 t.xC t.yQ ["self","level"] (GG K t):=by
 have Qk:=qh (P:=P) (w:=w) (base:=base) T;have Qa:=ji (P:=P) (w:=w) (base:=base) T;have Qh:=oS (P:=P) (w:=w) (base:=base) T;have Ql:=pU (P:=P) (w:=w) (base:=base) T;refine T.iW.F.okE gh (λvs H Q E h=>?_) (λcdv A outer s H vs Q E hr h=>?_)
 . let#[_,_,_,_,_,_,_,_,_,rfl,_]:=h;rfl
 . skip
   refine lx ?_;intro XX;refine(let W5:TS:=_; have hW5:aO XX ((aP gR).drop 5) W5:=(~~~(aA 5)); ?_);refine(let W4:TS:=_; have hW4:aO XX ((aP gR).drop 4) W4:=(aJ (bu wS rfl (cw rfl T.b_range ((az 0x1 0x0 T.b_len bV (aA 3>=>aD))>=>aD)) (aY (i:=6) gh.nd rfl 0x4) (@aK _ _ _ (bu wS rfl (pJ false true rfl T.b_zip ((bN (aA 0) T.aZ.cl T.ic.m Ql (hr*>#[]) T.ic.b .nil bR ((ay bc<$>(fD (aA 2))<*>aA 6)>=>aD))>=>(iY K (aA 4) (aA 6))>=>aD)) (cx rfl (bK (aY (i:=7) gh.nd rfl 0x4) (bK (aY (i:=8) gh.nd rfl 0x4) ck))) (@aK _ _ _ (@bW _ _ _ _ (cU Ht IK IL g9 (aA 5) ((bD ((ay bc<$>(fD (aA 2))<*>aA 6)>=>aA 7>=>aA 8>=>aD))>=>aD)) 0x0))))) @hW5); ?_);refine(let W3:TS:=_; have hW3:aO XX ((aP gR).drop 3) W3:=(aJ (pS 5 gh.nd (bI aD)) @hW4); ?_);refine(let W2:TS:=_; have hW2:aO XX ((aP gR).drop 2) W2:=(aJ (gS (bN (aA 0) T.aZ.cl T.iV.m Qh (hr*>#[]) T.iV.b .nil bR (aA 2>=>aD)) (cx rfl (bK (aY (i:=3) gh.nd rfl 0x4) (bK (aY (i:=4) gh.nd rfl 0x4) ck)))) @hW3); ?_);refine(let W1:TS:=_; have hW1:aO XX ((aP gR).drop 1) W1:=(aJ (pS 2 gh.nd (bN (aA 0) T.aZ.cl T.fS.m Qa (hr*>#[]) T.fS.b .nil bR (aA 1>=>aD))) @hW2); ?_);let#[w,wt,fs,wl,fns,cs,ms,Hb,z,rfl,W,q]:=h;show#[_,(aJ (@bW _ _ _ _ (bN (aA 0) T.aZ.cl T.ia.m Qk (hr*>#[]) T.ia.b .nil jt (aA 1>=>aD)) 0x0) @hW1),?_];have W0:=W;let#[oc,sent,cn,h,D,l1,l2]:=W0;show#[5,w.a,9,h.o,13,w,wt,fs,wl,fns,cs,ms,Hb,z,rfl,W,?_];rcases q with⟨i,f,m,p,pl,nm,rfl,L,hm,lvs,lnm,hk,q⟩|⟨hz,q⟩
   . refine .inl #[i,f,m,p,pl,rfl,L,hm,?_];have hf:=L.ow.1;show#[5,w.a,9,h.o,13,w,wt,fs,wl,fns,cs,ms,Hb,i,f,rfl,W,L.ow,?_];show#[5,w.a,9,h.o,13,w,wt,fs,wl,fns,cs,ms,Hb,f,m,rfl,W,hf,L.ma,λv hv=>?_];obtain⟨qa,c,l,vs,rfl,a1,⟨us,a2,a3⟩,a4,a5⟩:=hv;show#[qa,5,h.b<*a1,403,?_];show#[cO,λfl hfl=>?_];have lu:=Rk2.Ps.len a3;have s0:=aB.new (o:=.lst []) hfl;have hbn:=h.b.free hfl;show#[5,c,us,rfl,.inr ((h.b\s0)<*a2),5,∅,∅,(let Jv1:Nat->St->Hp->Prop:=λj σ H2=>aB H H2/\∃v6 v7 v8 xs,σ=[⇑↥w.a,⇑(.int i),⇑↥f.a,⇑↥c,⇑↥l,⇑↥fl,v6,v7,v8]/\H2 fl=⇑(.lst xs)/\Rk2.Ps (eJ K (ers fl H2)) xs (dZ f.first m nm j)/\xs.length<=100 * j; fH (lo:=0) (n:=us.length) Jv1 #[s0,8,[],rfl,aI,trivial,HY _] ?_ ?_)]
     . rintro j σ H2 hj ⟨s2,v6,v7,v8,xs,rfl,e2,p2,n2⟩;obtain⟨p1,hp1⟩:∃p1,m.ch[j]?=⇑p1:=#[_,HU ∅]
       obtain⟨pl1,hpl1⟩:∃pl1,m.vs[j]?=⇑pl1:=#[_,HU ∅]
       let#[F,LF,hnm]:=hk j p1 pl1 hp1 hpl1;let#[v1,hv1,q2,us2,rfl,b1,b2]:=c8 a5 hpl1;have lu2:=Rk2.Ps.len b2;have pn:=LF.pn;have n1:=LF.n1;have W2:=W.keep s2;have h2:=h.keep s2;have hR:dn f.first m nm j=((F2.nms F).zip pl1).map λx=>(f.first+j,x.1,x.2):=by unfold dn; rw[jW hnm,jW hpl1]
       have hN:dZ f.first m nm (j+1)=dZ f.first m nm j++dn f.first m nm j:=by unfold dZ; rw[Ju,IZ]; simp
       rw[Io];show#[5,w.a,9,h2.o,13,f.a,33,(h2.fr hf).1,T.cE.cl,T.eX,211,w,wt,fs,wl,fns,cs,ms,Hb,f.first+j,f,m,p1,pl1,F,rfl,W2,LF.lv,LF.c,LF.fn,LF.nm,Hu n1 #[],λnl H3 s3 eb e3=>?_];have s03:=s2\s3;have h3:=h2.keep s3;have nnl:nl≠fl:=λy=>by rw[y,hbn] at eb; cases eb
       show#[21,l,vs,19,aE.of (h3.b _ _ a4),bv hv1,nl,q2,rfl,#[_,aE.of e3],#[_,h3.b<*b1],(let Jv2:Nat->St->Hp->Prop:=λn σ H4=>aB (ers fl H3) H4/\∃v7 v8 xs,σ=[⇑↥w.a,⇑(.int i),⇑↥f.a,⇑↥c,⇑↥l,⇑↥fl,⇑(.int j),v7,v8]/\H4 fl=⇑(.lst xs)/\Rk2.Ps (eJ K (ers fl H4)) xs (dZ f.first m nm j++(dn f.first m nm j).take n)/\xs.length<=100 * j+n; qY (b1:=false) (b2:=true) (xs:=(F2.nms F).map V.str) (ys:=us2) Jv2 #[bO,4,xs,rfl,s3 _ _ e2,by rw[List.take_zero,IQ]; exact Rk2.Ps.imp (λ_ _ z=>z*>s3.ers) p2,n2] ?_ ?_ ?_)]
       . rintro n σ H4 hn ⟨s4,_⟩;show#[aE.of (s4 _ _ (by rw[ak nnl]; exact e3)),((cy (h.b\s03) hbn).trans s4)<*b1]
       . rintro n y z σ H4 b hy hz ⟨s4,v7,v8,xs,rfl,e4,p4,n4⟩ hb;have hn1:n<(F2.nms F).length:=by have:=(HV.mp hy).1; rwa [HS] at this
         rw[Hk,HU hn1] at hy;cases hy;let#[v2,hv2,hP]:=c8 b2 (HU (i:=n) ∅);rw[hz] at hv2;cases hv2;have s5:=aB.new (o:=.tup [.str (F2.nms F)[n],z]) hb;have e5:=aG.of (K:=K) (aI (H:=H4) (a:=b) (o:=.tup [.str (F2.nms F)[n],z]));generalize upd H4 b (.tup [.str (F2.nms F)[n],z])=H5 at s5 e5 ⊢;have s4H:aB H H5:=((cy s03 hfl)\s4).trans s5;have h5:=h.keep s4H;show#[b,5,e5,403,?_];show#[5,.inl #[6,aE.of (s5 _ _ e4)],5,f.a,33,(h5.fr hf).1,T.cE.cl,T.eX,3381,dU,λb6 h6=>?_];have s6:=aB.new (o:=.tup [.int ((f.first:Int)+(j:Int)),.str (F2.nms F)[n],z]) h6;have nb:b6≠fl:=λy=>by rw[y,s5 _ _ e4] at h6; cases h6
         have s46:=s5\s6;have hx:(dn f.first m nm j)[n]?=⇑(f.first+j,(F2.nms F)[n],pl1[n]'∅):=by rw[hR,Hk,HU (by rw[Jv]; lia),List.getElem_zip];rfl
         have sP:aB Hb (ers fl (upd H5 b6 (.tup [.int ((f.first:Int)+(j:Int)),.str (F2.nms F)[n],z]))):=cy ((h.b\s4H).trans s6) hbn;show#[fl,xs,11,s46 _ _ e4,Rk2.lt_line' ∅,(s4\s46).upd iE,17,aI,?_,by rw[HZ]; show xs.length+1<=_; lia];rw[fj,IM,hx,<- Ib];exact Rk2.Ps.app (Rk2.Ps.imp (λ_ _ z=>z*>s46.ers) p4) #[#[b6,z,rfl,aG.of (by rw[ak nb]; exact aI),bp.mono sP hP],trivial]
       . rintro σ H4 ⟨s4,v7,v8,xs,rfl,e4,p4,n4⟩;rw[HS,lu2,pn,Nat.min_self] at p4 n4;show#[(cy s03 hfl)\s4,8,xs,rfl,e4,?_,∅];rw[hN];rw[Ic (by rw[hR,HS,Jv]; lia)] at p4;exact p4
     . rintro σ H2 ⟨s2,v6,v7,v8,xs,rfl,e2,p2,n2⟩;rw[lu] at p2;show#[5,q fl xs H2 s2 hfl e2 p2]
   . exact .inr #[hz,q]
def CS:FnScope ["self","level","box","number"] ["self","level","box","number"] (aS mN):=by walk_at "s"
def uy (T:Txt K mg t):FnOk P w K mg base (c9 P w) 5 t.x6 t.yM ["self","level","box","number"] (Cb K t):=by
 have Qk:=qh (P:=P) (w:=w) (base:=base) T;have Qg:=pP (P:=P) (w:=w) (base:=base) T;have Qa:=ji (P:=P) (w:=w) (base:=base) T;refine T.lK.F.okE CS (λvs H Q E h=>?_) (λcdv A outer s H vs Q E hr h=>?_)
 . let#[_,_,_,_,_,_,_,_,_,_,_,rfl,_]:=h;rfl
 . let#[w,wt,fs,wl,fns,cs,ms,Hb,z,b,v,rfl,W,q]:=h;show#[_,(aJ (@bW _ _ _ _ (bN (aA 0) T.aZ.cl T.ia.m Qk (hr*>#[]) T.ia.b .nil jt (aA 1>=>aD)) 0x0) (aJ (@bW _ _ _ _ (bN (bN (aA 0) T.aZ.cl T.fS.m Qa (hr*>#[]) T.fS.b .nil bR (aA 1>=>aD)) T.cE.cl T.iS.m Qg (hr*>#[]) T.iS.b .nil bR (aA 2>=>aA 3>=>aD)) 0x0) (~~~bZ))),?_];have W0:=W;let#[oc,sent,cn,h,D,l1,l2]:=W0;show#[5,w.a,9,h.o,13,w,wt,fs,wl,fns,cs,ms,Hb,z,rfl,W,?_];rcases q with⟨i,f,m,p,pl,rfl,L,hm,hk,q⟩|⟨hz,q⟩
   . refine .inl #[i,f,m,p,pl,rfl,L,hm,?_];have hf:=L.ow.1;show#[5,w.a,9,h.o,13,w,wt,fs,wl,fns,cs,ms,Hb,i,f,rfl,W,L.ow,f.a,f.dx,5,(h.fr hf).1,53,f,⇑b,v,rfl,#[(h.fr hf).1,(h.fr hf).2],hk,λH1 s1 e1=>?_];exact q H1 s1 e1
   . exact .inr #[hz,q]
def pf:FnScope ["self","found","frame"] ["self"] (aS jw):=by walk_at "s"
def AX (T:Txt K mg t):FnOk P w K mg base CX0 3 t.xN t.ye ["self"] (Ec K t):=by
 have Qi:=ph (P:=P) (w:=w) (base:=base) T;refine T.rK.F.ok pf (λvs H Q E h=>?_) (λcdv A outer s H vs Q E hr h=>?_)
 . let#[_,_,_,_,_,_,_,_,_,rfl,_]:=h;rfl
 . skip
   refine lx ?_;intro XX;refine(let W2:TS:=_; have hW2:aO XX ((aP jw).drop 2) W2:=(~~~(aA 1)); ?_);let#[w,wt,fs,wl,fns,cs,ms,Hb,mf,rfl,W,lm,hm,q]:=h;show#[_,(aJ (pS 1 pf.nd (bI aD)) (aJ (bu PassesOwn.never rfl (d7 (fD (aA 0))) (aY (i:=2) pf.nd rfl 0x4) (@aK _ _ _ (@bW _ _ _ _ (cU Ht JF JG sR (aA 1) ((bN (aA 0) T.aZ.cl T.iU.m Qi (hr*>#[]) T.iU.b .nil bR (aA 2>=>aD))>=>aD)) 0x0))) @hW2)),?_];have W0:=W;let#[oc,sent,cn,h,D,l1,l2]:=W0;show#[cO,λl hl=>?_];have s0:=aB.new (o:=.lst []) hl;show#[5,w.a,33,s0 _ _ h.o,T.aZ.cl,T.eI,rfl,w.st,rfl,#[_,aE.of (s0 _ _ h.st)],(let Jv1:Nat->St->Hp->Prop:=λi σ H2=>aB H H2/\∃v2 us,σ=[⇑↥w.a,⇑↥l,v2]/\H2 l=⇑(.lst us)/\us.length<=100 * i/\Rk2.Ps (dI K Hb) us ((mf.take i).flatMap (·.ch)); gP (xs:=fs.map λf:Fm=>V.ref f.a) Jv1 #[s0,9,aI,HY _,trivial] ?_ ?_ ?_)]
   . rintro i σ H2 hi ⟨s2,_⟩;exact aE.of (s2 _ _ h.st)
   . rintro i x σ H2 hx ⟨s2,v2,us,rfl,e2,n2,p2⟩;have hi:i<fs.length:=by have:=(HV.mp hx).1; rwa [HS] at this
     rw[Hk,HU hi] at hx;cases hx;obtain⟨m,em⟩:∃m,mf[i]?=⇑m:=#[mf[i],HU ∅]
     have hm1:=hm i _ _ (HU hi) em;show#[5,.inl #[6,aE.of e2],5,w.a,9,s2 _ _ h.o,13,w,wt,fs,wl,fns,cs,ms,Hb,fs[i],m,rfl,W.keep s2,IT hi,hm1.1,λc z222_=>?_];let#[zs,hc1,hc2]:=z222_;have lz:=Rk2.Ps.len hc2;have:=hm1.2;show#[l,c,us,zs,7,e2,(h.b\s2)<*hc1,fJ ∅,s2.upd hl,9,aI,by rw[HZ]; lia,?_];rw[IM,em,IZ];exact Rk2.Ps.app p2 ↑hc2
   . rintro σ H2 ⟨s2,v2,us,rfl,e2,n2,p2⟩;rw[HS,<- lm,IP] at p2;show#[5,q l us H2 s2 hl e2 p2]
def Cs:FnScope ["self","function","args"] ["self","function","args"] (aS oE):=by walk_at "s"
def uC (T:Txt K mg t):FnOk P w K mg base CX0 3 t.x3 t.yJ ["self","function","args"] (zb K t):=by
 have QN:=FB (P:=P) (w:=w) (base:=base) T;refine T.lJ.F.ok Cs (λvs H Q E h=>?_) (λcdv A outer s H vs Q E hr h=>?_)
 . let#[_,_,_,_,_,_,_,_,_,_,_,_,_,_,rfl,_]:=h;rfl
 . let#[w,wt,fs,wl,fns,cs,ms,Hb,oc,sent,cn,g,ar,ys,rfl,h,l1,l2,ha,hy,q]:=h;show#[_,(aJ (@bW _ _ _ _ (cU Ht IK IL g9 (fD (aA 0)) ((pZ T.cE T.wo QN (hr*>#[]) (aA 1>=>aA 2>=>(az 0x1 0x0 T.b_len bV ((fD (aA 0))>=>aD))>=>aD))>=>aD)) 0x0) ac),?_];show#[5,w.a,33,h.o,T.aZ.cl,T.eI,rfl,.inl #[6,aE.of h.st],85,w.a,33,h.o,T.aZ.cl,T.fT,rfl,wt,wl,rfl,.inl (aE.of h.wts),λx dx hx hdx ne=>?_];have sA:aB H (upd (upd H dx (.own x)) x (.ins t.dg dx [])):=(aB.new hdx)\(aB.new (by rw[aM (Ne.symm ne)]; exact hx));show#[x,dx,ar,g,ys,wl.length,rfl,aI,(cy sA hx).seq ha,hy,λbx H' nbx s' fr=>#[rfl,?_]];have sB:aB H H':=(cy sA hx)\s';have hbx:H bx=none:=sA.free nbx;have nxb:x≠bx:=λz=>by rw[<- z,aI] at nbx; cases nbx
   let#[Hb',hC,sC]:=bF.push (f:=#[x,dx,bx,g,(0),bf ys,wl.length]) h sB hx hbx nxb fr.o fr.n;show#[w.st,19,sB _ _ h.st,Rk2.lt_line' (by rw[HS]; lia),?_];rw[Hq] at hC;exact q x dx bx Hb' _ sC hC
def oG:FnScope ["self","number","frame","sets","act"] ["self","number"] (aS kY):=by walk_at "s"
def Bq (T:Txt K mg t):FnOk P w K mg base CX0 14 t.x9 t.yN ["self","number"] (CL K t):=by
 have Qu:=vT (P:=P) (w:=w) (base:=base) T;have Qv:=uN (P:=P) (w:=w) (base:=base) T;have Qg:=pP (P:=P) (w:=w) (base:=base) T;refine T.rF.F.ok oG (λvs H Q E h=>?_) (λcdv A outer s H vs Q E hr h=>?_)
 . let#[_,_,_,_,_,_,_,_,_,_,_,_,_,rfl,_]:=h;rfl
 . skip
   refine lx ?_;intro XX;refine(let W1:TS:=_; have hW1:aO XX ((aP kY).drop 1) W1:=(@aK _ _ _ (af (GJ (K:=K) rfl (fD (aA 0)) (by intro _; rfl)) (aJ (pS 2 oG.nd (iY K (fD (aA 0)) (eh fE aH))) (aJ (cN (aA 0) (eO hJ (fD (aA 0)) fR (dz (fD (aA 2)))) 0x0) (aJ (gS (bN (aA 0) T.aZ.cl T.lN.m Qu (hr*>#[]) T.lN.b .nil bR (aA 2>=>aD)) (cx rfl (bK (aY (i:=3) oG.nd rfl 0x4) (bK (aY (i:=4) oG.nd rfl 0x4) ck)))) (aJ (@bW _ _ _ _ (bN (aA 2) T.cE.cl T.lH.m Qv (hr*>#[]) T.lH.b .nil bR (aA 3>=>aD)) 0x0) (aJ (@bW _ _ _ _ (bN (aA 2) T.cE.cl T.iS.m Qg (hr*>#[]) T.iS.b .nil bR ((iT K (aA 4))>=>aA 1>=>aD)) 0x0) (@aK _ _ _ (cN (aA 2) (iT K (aA 4)) 0x0))))))) (@aK _ _ _ (cN (aA 0) (aA 1) 0x0)))); ?_);let#[w,wt,fns,cs,ms,Hb,oc,sent,cn,wl,fs0,f,z,rfl,h,D,l1,l2,q]:=h;show#[_,(aJ (@bW _ _ _ _ (qt Ht PySem.F.slot_list_pop PySem.F.type_list_pop tO (fD (aA 0))) 0x0) @hW1),?_];have ep:(((fs0++[f]).map λf:Fm=>V.ref f.a).dropLast)=fs0.map λf:Fm=>V.ref f.a:=by rw[Hq]; exact List.dropLast_concat
   have h1:=h.pop;show#[5,w.a,33,h.o,T.aZ.cl,T.eI,rfl,.inl #[6,aE.of h.st],w.st,_,V.ref f.a,7,h.st,(by rw[Hq]; simp),?_];rw[ep];generalize upd H w.st (.lst (fs0.map λf:Fm=>V.ref f.a))=H1 at h1 ⊢;show#[5,w.a,33,h1.o,T.aZ.cl,T.eI,6,.inl #[_,aE.of h1.st,rfl],?_];rcases q with⟨rfl,q⟩|⟨fs1,f1,ss,b,n,rfl,hs,fo,q⟩
   . exact aa 0x8 #[21,w.a,17,h1.o,T.aZ.cl,T.ij,(show(9:Nat)<1000 by decide),q _ _ (aB.refl _) h1.out]
   . refine ah 0x8 ?_;have hm:f1∈fs1++[f1]:=by simp
     have lf:(fs1++[f1]).length<=100:=by lia
     have lw:(wl.take f1.first).length<=100:=by rw[IE]; lia
     show#[5,w.a,33,h1.o,T.aZ.cl,T.eI,13,w.st,35,aE.of h1.st,(by rw[Hq]; exact qg _ _),?_];show#[5,w.a,33,h1.o,T.aZ.cl,T.fT,13,f1.a,33,(h1.fr hm).1,T.cE.cl,T.eX,13,wt,wl,rfl,aE.of h1.wts,λl hl=>?_];rw[qi];have s2:=aB.new (o:=.lst (wl.take f1.first)) hl;let#[Hb2,h2,sb]:=bF.anew h1 s2 hl aI;show#[5,w.a,17,s2 _ _ h1.o,T.aZ.cl,T.fT,(show(9:Nat)<1000 by decide),?_];have h2:CA t Hb2 (upd (upd H1 l (.lst (wl.take f1.first))) w.a (.ins t.bJ w.dx (bT "waiting" ↥l (wG w oc cn.rc wt)))) w l (fs1++[f1]) oc sent cn (wl.take f1.first):=h2;generalize upd (upd H1 l (.lst (wl.take f1.first))) w.a (.ins t.bJ w.dx (bT "waiting" ↥l (wG w oc cn.rc wt)))=H2 at h2 ⊢;show#[5,w.a,9,h2.o,13,w,l,fs1++[f1],wl.take f1.first,fns,cs,ms,Hb2,f1,#[ss,.wait b n],rfl,#[oc,sent,cn,h2,D.mono sb,lw,lf],hm,hs,λv hv=>?_];let#[qa,p,us,av,rfl,a1,a2,a3,pa,xs,rfl,c1,c2]:=hv;obtain rfl:xs=[ki b,.int n]:=c2;show#[qa,5,h2.b<*a1,403,?_];have sn:=cy h2.b (h2.nob hm);show#[5,f1.a,f1.dx,5,(h2.fr hm).1,13,f1,p,us,ss,rfl,#[(h2.fr hm).1,(h2.fr hm).2],sn<*a2,Rk2.Ps.imp (λ_ _ z=>z*>sn) a3,fo.ok,fo.dv,fo.n,fo.len,λH3 s3 e3=>?_];have h3:=h2.boxesK s3 e3;have hm3:({ f1 with kvs:=setK f1.kvs ss }:Fm)∈fs1++[{ f1 with kvs:=setK f1.kvs ss }]:=by simp
     have l3:(setK f1.kvs ss).length<100000:=by
       have:=pX (d9 f1.kvs ss) f1.kvs;have e:(d9 f1.kvs ss).length=ss.length:=by unfold d9; simp
       have:=fo.n;have:=fo.len;show(gG _ _).length<_
       lia
     show#[5,f1.a,f1.dx,5,(h3.fr hm3).1,13,pa,35,h3.b<*c1,13,{ f1 with kvs:=setK f1.kvs ss },b,z,rfl,#[(h3.fr hm3).1,(h3.fr hm3).2],l3,λH4 s4 e4=>?_];have h4:=h3.boxesK s4 e4;have hm4:({ f1 with kvs:=iR (setK f1.kvs ss) b z }:Fm)∈fs1++[{ f1 with kvs:=iR (setK f1.kvs ss) b z }]:=by simp
     show#[5,pa,35,h4.b<*c1,13,f1.a,17,(h4.fr hm4).1,T.cE.cl,T.gY,(show(4:Nat)<1000 by decide),q l Hb2 _ sb (h4.goto (r:=n))]
def vH:FnScope ["self","frame","act","worths","kind"] ["self","frame","act","worths"] (aS j4):=by walk_at "s"
def FC (T:Txt K mg t):FnOk P w K mg base CX0 15 t.x5 t.yL ["self","frame","act","worths"] (Db K t):=by
 have QO:=Bq (P:=P) (w:=w) (base:=base) T;have Qw:=uC (P:=P) (w:=w) (base:=base) T;have Qi:=ph (P:=P) (w:=w) (base:=base) T;refine T.rE.F.ok vH (λvs H Q E h=>?_) (λcdv A outer s H vs Q E hr h=>?_)
 . obtain⟨w,wt,fns,cs,ms,Hb,oc,sent,cn,wl,fs0,f,a,v,l,zs,rfl,h,D,l1,l2,⟨pa,xs,rfl,c1,c2⟩,hl,hz,hn,q⟩:=h;rfl
 . skip
   refine lx ?_;intro XX;refine(let W2:TS:=_; have hW2:aO XX ((aP j4).drop 2) W2:=(aJ (af (ao bB (aA 4) ai (ag _)) (aJ (cN (aA 1) (iT K (aA 2)) 0x0) (aJ (@bW _ _ _ _ (cU Ht JF JG qk (fD (aA 0)) ((uP<$>(bI (aA 1>=>aD))<*>(az 0x1 0x0 T.b_len bV ((bN (aA 0) T.aZ.cl T.iU.m Qi (hr*>#[]) T.iU.b .nil bR (aA 1>=>aD))>=>aD)))>=>aD)) 0x0) (aJ (@bW _ _ _ _ (bN (aA 0) T.aZ.cl T.lJ.m Qw (hr*>#[]) T.lJ.b .nil bR ((iT K (aA 2))>=>aA 3>=>aD)) 0x0) (~~~eP)))) ac) HD); ?_);refine(let W1:TS:=_; have hW1:aO XX ((aP j4).drop 1) W1:=(aJ (af (ao bB (aA 4) ai (ag _)) (aJ (@bW _ _ _ _ (bN (aA 0) T.aZ.cl T.rF.m QO (hr*>#[]) T.rF.b .nil bR ((iL K (aA 3))>=>aD)) 0x0) (~~~eP)) ac) @hW2); ?_);obtain⟨w,wt,fns,cs,ms,Hb,oc,sent,cn,wl,fs0,f,a,v,l,zs,rfl,h,D,l1,l2,⟨pa,xs,rfl,c1,c2⟩,hl,hz,hn,q⟩:=h;show#[_,(aJ (pS 4 vH.nd (iT K (aA 2))) @hW1),?_];have h0:=(tI c2).1;have hf:f∈fs0++[f]:=by simp
   show#[5,pa,35,h.b<*c1,h0,?_];show#[45,?_];rcases q with⟨g,ts,n,m,rfl,hm,lm,q⟩|⟨tr,rfl,q⟩
   . refine aa (show ¬ decide (V.str "call"=V.str "back")=true by decide +kernel) #[45,ah (show decide (V.str "call"=V.str "call")=true by decide +kernel) ?_];let#[qq,us,rfl,d1,d2]:=c2;show#[5,pa,35,h.b<*c1,13,f.a,17,(h.fr hf).1,T.cE.cl,T.gY,(show(4:Nat)<1000 by decide),?_];have h1:CA t Hb (upd H f.a (.ins t.dg f.dx (bT "spot" (.int n) (fF f)))) w wt (fs0++[{ f with spot:=n }]) oc sent cn wl:=h.goto (r:=n);generalize upd H f.a (.ins t.dg f.dx (bT "spot" (.int n) (fF f)))=H1 at h1 ⊢;have hf1:({ f with spot:=n }:Fm)∈fs0++[{ f with spot:=n }]:=by simp
     have lf:(fs0++[({ f with spot:=n }:Fm)]).length<=100:=by rw[HZ,JR]; lia
     show#[5,w.a,33,h1.o,T.aZ.cl,T.fT,rfl,.inl #[6,aE.of h1.wts],5,eu,λl5 h5=>?_];have s5:=aB.new (o:=.lst [↥f.a]) h5;have h5':=h1.keep s5;show#[5,w.a,9,h5'.o,13,w,wt,fs0++[{ f with spot:=n }],wl,fns,cs,ms,Hb,{ f with spot:=n },m,rfl,#[oc,sent,cn,h5',D,l1,lf],hf1,hm,λc z223_=>?_];let#[ws,e1,e2]:=z223_;have lc:=Rk2.Ps.len e2;show#[c,ws,rfl,.inr (h5'.b<*e1),l5,19,aI,∅,∅,fJ (by simp; lia),λp6 h6=>?_];have s6:=aB.new (o:=.lst (List.replicate (ws.length:Int).toNat [V.ref f.a]).flatten) h6;have h6':=h5'.keep s6;show#[wt,p6,wl,11,h6'.wts,aI,fJ (by rw[Cw.rep_one,JQ]; lia),?_];have h7:=h6'.wait (xs:=wl++(List.replicate (ws.length:Int).toNat [V.ref f.a]).flatten);rw[Cw.rep_one,JI,lc] at h7 ⊢;generalize upd _ wt (.lst (wl++List.replicate m.ch.length (V.ref f.a)))=H7 at h7 ⊢;have lw:(wl++List.replicate m.ch.length (V.ref f.a)).length=wl.length+m.ch.length:=by rw[HZ,JQ]
     show#[5,w.a,9,h7.o,13,pa,35,h7.b<*c1,13,w,wt,fs0++[{ f with spot:=n }],wl++List.replicate m.ch.length (V.ref f.a),fns,cs,ms,Hb,oc,sent,cn,g,l,zs.map V.int,rfl,h7,(by rw[lw]; lia),lf,aE.of (h7.b _ _ hl),by rw[HS]; lia,λx dx bx Hb' H' sb hC=>?_];rw[lw] at hC;exact q x dx bx Hb' H' sb hC
   . refine ah (show decide (V.str "back"=V.str "back")=true by decide +kernel) ?_;obtain⟨z0,rfl⟩:∃z0,zs=[z0]:=by match zs,hz with | [y],_=>exact⟨y,rfl⟩
     show#[5,w.a,9,h.o,13,l,35,aE.of (h.b _ _ hl),rfl,w,wt,fns,cs,ms,Hb,oc,sent,cn,wl,fs0,f,z0,rfl,h,D,l1,l2,q]
def kq:FnScope ["self","frame","sets","act","worths"] ["self"] (aS gj):=by walk_at "s"
def DS (T:Txt K mg t):FnOk P w K mg base CX0 16 t.xI t.yW ["self"] (uK K t):=by
 have QP:=AR (P:=P) (w:=w) (base:=base) T;have Qu:=vT (P:=P) (w:=w) (base:=base) T;have Qr:=tR (P:=P) (w:=w) (base:=base) T;have Qv:=uN (P:=P) (w:=w) (base:=base) T;have QQ:=FC (P:=P) (w:=w) (base:=base) T;refine T.rH.F.ok kq (λvs H Q E h=>?_) (λcdv A outer s H vs Q E hr h=>?_)
 . let#[_,_,_,_,_,_,_,_,_,_,_,_,_,_,rfl,_]:=h;rfl
 . skip
   refine lx ?_;intro XX;refine(let W4:TS:=_; have hW4:aO XX ((aP gj).drop 4) W4:=(~~~(bN (aA 0) T.aZ.cl T.rE.m QQ (hr*>#[]) T.rE.b .nil bR (aA 1>=>aA 3>=>aA 4>=>aD))); ?_);refine(let W3:TS:=_; have hW3:aO XX ((aP gj).drop 3) W3:=(aJ (@bW _ _ _ _ (bN (aA 1) T.cE.cl T.lH.m Qv (hr*>#[]) T.lH.b .nil bR (aA 2>=>aD)) 0x0) @hW4); ?_);refine(let W2:TS:=_; have hW2:aO XX ((aP gj).drop 2) W2:=(aJ (pS 4 kq.nd (bN (aA 1) T.cE.cl T.lI.m Qr (hr*>#[]) T.lI.b .nil bR ((cD T.reckonings_of QP hr (aA 3>=>aD))>=>aD))) @hW3); ?_);refine(let W1:TS:=_; have hW1:aO XX ((aP gj).drop 1) W1:=(aJ (gS (bN (aA 0) T.aZ.cl T.lN.m Qu (hr*>#[]) T.lN.b .nil bR (aA 1>=>aD)) (cx rfl (bK (aY (i:=2) kq.nd rfl 0x4) (bK (aY (i:=3) kq.nd rfl 0x4) ck)))) @hW2); ?_);let#[w,wt,fns,cs,ms,Hb,oc,sent,cn,wl,fs0,f,a,ss,rfl,h,D,l1,l2,hs,fo,ht,hn,q]:=h;show#[_,(aJ (pS 1 kq.nd (iY K (fD (aA 0)) (eh fE aH))) @hW1),?_];have hf:f∈fs0++[f]:=by simp
   have lf:(fs0++[f]).length<=100:=by rw[HZ,JR]; lia
   show#[5,w.a,33,h.o,T.aZ.cl,T.eI,13,w.st,35,aE.of h.st,(by rw[Hq]; exact qg _ _),?_];show#[5,w.a,9,h.o,13,w,wt,fs0++[f],wl,fns,cs,ms,Hb,f,#[ss,a],rfl,#[oc,sent,cn,h,D,l1,lf],hf,hs,λv hv=>?_];let#[qa,p,us,av,rfl,a1,a2,a3,a4]:=hv;show#[qa,5,h.b<*a1,403,?_];show#[5,f.a,f.dx,5,(h.fr hf).1,13,a,av,rfl,a4*>h.b,hn,λl1' us1 H1 s1 n1 e1 p1=>?_];show#[f,l1',us1,fg a,rfl,#[s1 _ _ (h.fr hf).1,s1 _ _ (h.fr hf).2],aE.of e1,p1,ht,fo.dv,∅,λl2' H2 s2 n2 e2=>?_];have sg:aB Hb (Wk.gr Hb H H2):=Wk.gr_same h.b;have h2:=h.grow (s1\s2);have hl2:Wk.gr Hb H H2 l2'=⇑(.lst (((fg a).map (Rk2.wv (Rk2.fOf f.kvs))).map V.int)):=Wk.gr_new (s1.free n2) e2;generalize Wk.gr Hb H H2=Hg at h2 sg hl2;have sn:=cy h2.b (h2.nob hf);show#[5,f.a,f.dx,5,(h2.fr hf).1,13,f,p,us,ss,rfl,#[(h2.fr hf).1,(h2.fr hf).2],(sg\sn)<*a2,Rk2.Ps.imp (λ_ _ z=>z*>(sg\sn)) a3,fo.ok,fo.dv,fo.n,fo.len,λH3 s3 e3=>?_];have h3:=h2.boxesK s3 e3;show#[5,w.a,9,h3.o,213,w,wt,fns,cs,ms,Hg,oc,sent,cn,wl,fs0,{ f with kvs:=setK f.kvs ss },a,av,l2',(fg a).map (Rk2.wv (Rk2.fOf f.kvs)),rfl,h3,D.mono sg,l1,l2,a4*>sg,hl2,HS _,by rw[HS]; lia,?_];rcases q with⟨g,ts,n,m,rfl,hm,lm,q⟩|⟨tr,rfl,q⟩
   . exact(.inl #[g,ts,n,m,rfl,hm,lm,λx dx bx Hb' H' sb hC=>q x dx bx Hb' H' (sg\sb) hC])
   . refine .inr #[tr,rfl,?_];rcases q with⟨e,q⟩|⟨fs1,f1,ss1,b,n,e,hs1,fo1,q⟩
     . exact .inl #[e,λHb' H' sb hC=>q Hb' H' (sg\sb) hC]
     . exact .inr #[fs1,f1,ss1,b,n,e,hs1,fo1,λwt' Hb' H' sb hC=>q wt' Hb' H' (sg\sb) hC]
def Ed:FnScope ["self"] ["self"] (aS nh):=by walk_at "s"
def CC (T:Txt K mg t):FnOk P w K mg base (c9 P w) 17 t.xQ t.yh ["self"] (FZ K t):=by
 have Qj:=qD (P:=P) (w:=w) (base:=base) T;have QR:=DS (P:=P) (w:=w) (base:=base) T;refine T.gX.F.okE Ed (λvs H Q E h=>?_) (λcdv A outer s H vs Q E hr h=>?_)
 . let#[_,rfl,_]:=h;rfl
 . let#[x,rfl,q]:=h;show#[_,(aJ (af (cM (gw (aA 0) T.aZ.cl T.ib.m Qj (hr*>#[]) T.ib.b .nil bR)) (@aK _ _ _ (qd T.cm T.i0_Ended rfl pc)) ac) (~~~(gw (aA 0) T.aZ.cl T.rH.m QR (hr*>#[]) T.rH.b .nil bR))),?_];rcases q with⟨w,wt,fns,cs,ms,Hb,oc,sent,cn,wl,fs0,f,a,ss,e,h,D,l1,l2,hs,fo,ht,hn,q⟩|⟨Hb,w,wt,oc,sent,cn,wl,rfl,h,q⟩
   . cases e;have lf:(fs0++[f]).length<=100:=by rw[HZ,JR]; lia
     show#[5,w.a,9,h.o,rfl,w,wt,fs0++[f],oc,sent,cn,wl,Hb,rfl,h,lf,5,aa 0x8 ?_];show#[5,w.a,9,h.o,rfl,w,wt,fns,cs,ms,Hb,oc,sent,cn,wl,fs0,f,a,ss,rfl,h,D,l1,l2,hs,fo,ht,hn,q]
   . show#[5,w.a,9,h.o,rfl,w,wt,[],oc,sent,cn,wl,Hb,rfl,h,Hw _,5,ah rfl (q H (aB.refl _))]
def Eb:FnScope ["self","program"] ["self","program"] (aS gM):=by walk_at "s"
def Di (T:Txt K mg t):FnOk P w K mg base CX0 6 t.xO t.yf ["self","program"] (ze K t):=by
 have QS:=BG (P:=P) (w:=w) (base:=base) T;refine T.rL.F.ok Eb (λvs H Q E h=>?_) (λcdv A outer s H vs Q E hr h=>?_)
 . let#[_,_,_,_,rfl,_]:=h;rfl
 . skip
   refine lx ?_;intro XX;refine(let W5:TS:=_; have hW5:aO XX ((aP gM).drop 5) W5:=(@aK _ _ _ (cN (aA 0) aH 0x0)); ?_);refine(let W4:TS:=_; have hW4:aO XX ((aP gM).drop 4) W4:=(aJ (cN (aA 0) DL 0x0) @hW5); ?_);refine(let W3:TS:=_; have hW3:aO XX ((aP gM).drop 3) W3:=(aJ (cN (aA 0) (bI aD) 0x0) @hW4); ?_);refine(let W2:TS:=_; have hW2:aO XX ((aP gM).drop 2) W2:=(aJ (cN (aA 0) eP 0x0) @hW3); ?_);refine(let W1:TS:=_; have hW1:aO XX ((aP gM).drop 1) W1:=(aJ (cN (aA 0) (bI aD) 0x0) @hW2); ?_);let#[x,dx,p,fns,rfl,hx,hp,hne,hlen,hall,hnd,q]:=h;show#[_,(aJ (cN (aA 0) (pZ T.dR T.wr QS (hr*>#[]) (aA 1>=>aD)) 0x0) @hW1),?_];show#[5,λfl fdx hfl hfdx nfd=>?_];have nxf:x≠fl:=λz=>by rw[<- z,hx] at hfl; cases hfl
   have nxd:x≠fdx:=λz=>by rw[<- z,hx] at hfdx; cases hfdx
   have sE:aB (ers x H) (ers fl (upd (upd H fdx (.own fl)) fl (.ins t.bq fdx []))):=λb o hb=>by
     unfold L2.ers at hb;split at hb
     . cases hb
     . have n1:b≠fl:=λz=>by rw[z,hfl] at hb; cases hb
       have n2:b≠fdx:=λz=>by rw[z,hfdx] at hb; cases hb
       rw[ak n1,aM n1,aM n2];exact hb
   show#[fl,fdx,p,fns,rfl,aI,sE.seq hp,hne,hlen,λf hf=>(hall f hf)*>sE,hnd,λH2 s2 hFl=>#[rfl,?_]];have hx2:H2 x=⇑(.ins t.bJ dx []):=s2 _ _ (by rw[ak nxf,aM nxf,aM nxd]; exact hx);have sb:aB (ers x H) (ers x H2):=λb o hb=>by
     have nb:b≠x:=λz=>by rw[z] at hb; unfold L2.ers at hb; rw[He rfl] at hb; cases hb
     rw[ak nb];exact s2 _ _ (sE _ _ hb)
   have hFb:F2.FlowsAt K t.bq (ers x H2) fl fns:=Wk.flows_ni hFl (λb o hb hn=>by
     have nb:b≠x:=λz=>by rw[z,hx2] at hb; cases hb; exact hn _ _ _ rfl
     rw[ak nb];exact hb) (λo ho=>by rw[ak nxf.symm]; exact ho)
   show#[5,x,17,hx2,T.aZ.cl,T.ii,#[],cO,λst hst=>#[5,x,17,aB.new hst _ _ aI,T.aZ.cl,T.eI,J9 (db _ _ _ 0 (HY 0)) #[],5,x,17,aI,T.aZ.cl,T.ij,J9 (db _ _ _ 1 (db _ _ _ 0 (HY 0))) #[],cO,λsd hsd=>#[5,x,17,aB.new hsd _ _ aI,T.aZ.cl,T.lg,J9 (db _ _ _ 2 (db _ _ _ 1 (db _ _ _ 0 (HY 0)))) #[],λct hct=>#[5,x,17,aB.new hct _ _ aI,T.aZ.cl,T.lZ,J9 (db _ _ _ 3 (db _ _ _ 2 (db _ _ _ 1 (db _ _ _ 0 (HY 0))))) #[],5,x,17,aI,T.aZ.cl,T.le,J9 (db _ _ _ 4 (db _ _ _ 3 (db _ _ _ 2 (db _ _ _ 1 (db _ _ _ 0 (HY 0)))))) #[],?_]]]];have nst:st≠x:=λz=>by rw[z,aI] at hst; cases hst
   have hst2:H2 st=none:=by rwa [aM nst] at hst
   have nsd:sd≠x:=λz=>by rw[z,aI] at hsd; cases hsd
   rw[aM nsd,aM nsd] at hsd;have nss:sd≠st:=λz=>by rw[z,aI] at hsd; cases hsd
   have hsd2:H2 sd=none:=by rwa [aM nss,aM nsd] at hsd
   have nct:ct≠x:=λz=>by rw[z,aI] at hct; cases hct
   rw[aM nct] at hct;have ncd:ct≠sd:=λz=>by rw[z,aI] at hct; cases hct
   rw[aM ncd,aM nct,aM nct] at hct;have ncs:ct≠st:=λz=>by rw[z,aI] at hct; cases hct
   have hct2:H2 ct=none:=by rwa [aM ncs,aM nct] at hct
   have hb0:∀{b:L6},H2 b=none->ers x H2 b=none:=λ{b} hb=>by
     unfold L2.ers;split
     . rfl
     . exact hb
   have fin:∀b o,ers x H2 b=⇑o->b≠x/\b≠st/\b≠sd/\b≠ct/\H2 b=⇑o:=λb o hb=>by
     unfold L2.ers at hb;split at hb
     . cases hb
     . rename_i nb
       show#[nb,(λz=>by rw[z,hst2] at hb; cases hb),(λz=>by rw[z,hsd2] at hb; cases hb),(λz=>by rw[z,hct2] at hb; cases hb),hb]
   refine q fl st sd ct (ers x H2) _ sb #[λb o hb=>?_,λp hp=>?_,λp hp=>?_,?_] hFb
   . let#[n1,n2,n3,n4,e]:=fin b o hb;rw[aM n1,aM n1,aM n4,aM n1,aM n3,aM n1,aM n1,aM n2,aM n1];exact e
   . simp only[Hh,ID,or_false] at hp;rcases hp with rfl|rfl|rfl|rfl
     . exact aI
     . show upd _ x _ st=_;rw[aM nst,aM nst,aM ncs.symm,aM nst,aM nss.symm,aM nst,aM nst,aI]
     . show upd _ x _ sd=_;rw[aM nsd,aM nsd,aM ncd.symm,aM nsd,aI]
     . show upd _ x _ ct=_;rw[aM nct,aM nct,aI]
   . simp only[Hh,ID,or_false] at hp;rcases hp with rfl|rfl|rfl|rfl
     . exact iE
     . exact hb0 hst2
     . exact hb0 hsd2
     . exact hb0 hct2
   . simp [nst.symm,nsd.symm,nct.symm,nss.symm,ncs.symm,ncd.symm]
def zf:FnScope ["self","program","code","table","args"] ["self","program","code","table","args"] (aS ge):=by walk_at "s"
def De (T:Txt K mg t):FnOk P w K mg base CX0 8 t.xA t.yO ["self","program","code","table","args"] (AJ K t):=by
 have QT:=zi (P:=P) (w:=w) (base:=base) T;have QU:=F9 (P:=P) (w:=w) (base:=base) T;have QV:=Di (P:=P) (w:=w) (base:=base) T;have Qw:=uC (P:=P) (w:=w) (base:=base) T;refine T.wq.F.ok zf (λvs H Q E h=>?_) (λcdv A outer s H vs Q E hr h=>?_)
 . let#[_,_,_,_,_,_,_,_,_,_,_,rfl,_]:=h;rfl
 . skip
   refine lx ?_;intro XX;refine(let W4:TS:=_; have hW4:aO XX ((aP ge).drop 4) W4:=(@aK _ _ _ (@bW _ _ _ _ (bN (aA 0) T.aZ.cl T.lJ.m Qw (hr*>#[]) T.lJ.b .nil bR ((fD (fD (aA 0)))>=>aA 4>=>aD)) 0x0)); ?_);refine(let W3:TS:=_; have hW3:aO XX ((aP ge).drop 3) W3:=(aJ (cN (aA 0) (bI aD) 0x0) @hW4); ?_);refine(let W2:TS:=_; have hW2:aO XX ((aP ge).drop 2) W2:=(aJ (cN (aA 0) (cD T.marks_by_name QU hr (aA 3>=>aD)) 0x0) @hW3); ?_);refine(let W1:TS:=_; have hW1:aO XX ((aP ge).drop 1) W1:=(aJ (cN (aA 0) (cD T.spots_by_name QT hr (aA 2>=>aD)) 0x0) @hW2); ?_);let#[x,dx,p,ar,cv,tv,fns,F,cs,ms,ys,rfl,hx,hp,hne,hlen,hall,hnd,hF,hc,c1,c2,c3,ht,t1,t2,t3,har,hy,q]:=h;show#[_,(aJ (@bW _ _ _ _ (Ff (qV rfl T.HM.g rfl) T.rL.B QV (hr*>#[]) T.rL.b .nil bR (aA 0>=>aA 1>=>aD)) 0x0) @hW1),?_];show#[21,x,dx,p,fns,rfl,hx,hp,hne,hlen,hall,hnd,λfl st sd ct Hb H1 s1 h1 hFl=>?_];show#[5,cv,cs,Hb,rfl,h1.b,hc*>s1,c1,c2,c3,λd2 H2 s2 hS=>?_];have h2:=h1.grow s2;have g2:aB Hb (Wk.gr Hb H1 H2):=Wk.gr_same h1.b;generalize Wk.gr Hb H1 H2=Hb2 at h2 g2 hS;show#[5,x,17,h2.get Hj,T.aZ.cl,T.jb,(show(6:Nat)<1000 by decide),?_];have h3:=Own.set (A:=[]) (o':=.ins t.bJ dx (bT "spots_of" ↥d2 (wF (w0 x dx st sd ct fl) .non 0))) h2;show#[5,tv,ms,Hb2,rfl,h3.b,(ht*>s1).mono g2,t1,t2,t3,λd4 H4 s4 hM=>?_];have h4:=h3.grow s4;have g4:aB Hb2 (Wk.gr Hb2 (upd H2 x (.ins t.bJ dx (bT "spots_of" ↥d2 (wF (w0 x dx st sd ct fl) .non 0)))) H4):=Wk.gr_same h3.b;generalize Wk.gr Hb2 (upd H2 x (.ins t.bJ dx (bT "spots_of" ↥d2 (wF (w0 x dx st sd ct fl) .non 0)))) H4=Hb4 at h4 g4 hM;show#[5,x,17,h4.get Hj,T.aZ.cl,T.ja,(show(7:Nat)<1000 by decide),cO,λwt hwt=>?_];have h5:=Own.set (A:=[]) (o':=.ins t.bJ dx (bT "marks_of" ↥d4 (bT "spots_of" ↥d2 (wF (w0 x dx st sd ct fl) .non 0)))) h4;have s6:=aB.new (o:=.lst []) hwt;let#[h6,g6]:=Own.take (N:=[(wt,.lst [])]) h5 s6 (λp hp=>by rw[IC.mp hp]; show#[hwt,aI]) 0x8;generalize List.foldr (λ(p:L6×HO) G=>ers p.1 G) _ [(wt,HO.lst [])]=Hb6 at h6 g6;show#[5,x,17,h6.get Hj,T.aZ.cl,T.fT,(show(8:Nat)<1000 by decide),?_];have h7:=Own.set (A:=[]) (o':=.ins t.bJ dx (bT "waiting" ↥wt (bT "marks_of" ↥d4 (bT "spots_of" ↥d2 (wF (w0 x dx st sd ct fl) .non 0))))) h6;have h7:CA t Hb6 _ ⟨x,dx,st,sd,ct,fl,d2,d4⟩ wt [] .non [] ⟨[],0⟩ []:=h7;have sA:aB (ers x H) Hb6:=((s1\g2).trans g4).trans g6;have D:Dt K t Hb6 ⟨x,dx,st,sd,ct,fl,d2,d4⟩ fns cs ms:=#[hFl*>((g2\g4).trans g6),hS*>(g4\g6),hM*>g6]
   let#[dx3,gs3,fz,k1,k2,k3]:=Wk.fl_last (D.fl.mono h7.b);rw[hF] at k2;cases k2;show#[5,x,9,h7.o,13,x,33,h7.o,T.aZ.cl,T.ii,rfl,fl,33,k1,T.dR.cl,T.jd,k3,5,#[x,dx,st,sd,ct,fl,d2,d4],wt,[],[],fns,cs,ms,Hb6,.non,[],#[[],(0)],F.name,ar,ys,rfl,h7,#[],#[],(sA\h7.b).seq har,hy,λfa fdx fbx Hb' H' sb hC=>?_];exact q #[x,dx,st,sd,ct,fl,d2,d4] wt fa fdx fbx Hb' H' rfl (sA\sb) hC (D.mono sb)
def FY:FnScope ["_law_script","_law_k"] ["_law_script","_law_k"] (aS mI):=by walk_at "s"
def zS (T:Txt K mg t):FnOk P w K mg base CX0 1 t.xX t.yo ["_law_script","_law_k"] (BK K):=by
 refine T.zJ.F.ok FY (λvs H Q E h=>?_) (λcdv A outer s H vs Q E hr h=>?_)
 . let#[_,_,_,rfl,_]:=h;rfl
 . let#[a,ns,k,rfl,hS,hl,h0,q]:=h;show#[_,(aJ (af (ao (ay jJ) (aA 1) (az 0x1 0x0 T.b_len bV (aA 0>=>aD)) (ag _)) (~~~(iY K (aA 0) (aA 1))) ac) (~~~aH)),?_];have hlen:(ns.map V.int).length=ns.length:=HS _;show#[21,a,5,.inl hS,77,?_];refine qX (λc=>?_) (λc=>?_)
   . have c:=bG c;rw[hlen] at c;let#[z,hz]:=D8 h0 c;show#[21,a,35,hS,hz,q _]
   . exact q _
def HC:FnScope ["_law_found"] ["_law_found"] (aS nH):=by walk_at "s"
def mB (T:Txt K mg t):FnOk P w K mg base CX0 1 t.xt t.zA ["_law_found"] (Bi K):=by
 refine T.lY.F.ok HC (λvs H Q E h=>?_) (λcdv A outer s H vs Q E hr h=>?_)
 . let#[_,rfl,_]:=h;rfl
 . let#[z,rfl,q]:=h;show#[_,(aJ (@aR _ _ _ _ (g7 (az kW 0x0 T.b_isinstance dh (aA 0>=>(gB (v:=V.ty "int") rfl T.b_int mW rfl)>=>aD)) (i5 (qH (az kW 0x0 T.b_isinstance dh (aA 0>=>(gB (v:=V.ty "bool") rfl T.b_bool EG rfl)>=>aD)))))) ac),?_];show#[40,true,rfl,.int _,13,ah rfl #[40,false,rfl,.int _,13,q]]
end
end K38
namespace K38
open PySem L2 K21 Rk2
section
variable {P:Program} {w:World} {K:L7} {mg:Str->Hl K'} {base:Heap} {t:Adr}
def AC:FnScope ["_law_sign","_law_one","_law_other"] ["_law_sign","_law_one","_law_other"] (aS nW):=by walk_at "s"
def Cr (T:Txt K mg t):FnOk P w K mg base CX0 1 t.xq t.z8 ["_law_sign","_law_one","_law_other"] (DD K):=by
 refine T.zP.F.ok AC (λvs H Q E h=>?_) (λcdv A outer s H vs Q E hr h=>?_)
 . let#[_,_,_,rfl,_]:=h;rfl
 . let#[s,a,b,rfl,h1,h2,h3,h4,q]:=h;show#[_,(aJ (af (ao bB (aA 0) ai (ag _)) (~~~(aV bH<$>(ay bc<$>aA 1<*>aA 2)<*>(aV iq<$>aH<*>aH))) ac) (aJ (af (ao bB (aA 0) ai (ag _)) (~~~(aV bH<$>(ay fq<$>aA 1<*>aA 2)<*>(aV iq<$>aH<*>aH))) ac) (aJ (af (ao bB (aA 0) ai (ag _)) (~~~(aV bH<$>(aV fX<$>aA 1<*>aA 2)<*>(aV iq<$>aH<*>aH))) ac) (aJ (af (ao bB (aA 0) ai (ag _)) (aJ (af (ao bB (aA 2) aH (ag _)) (~~~aH) ac) (~~~(aV sL<$>aA 1<*>aA 2))) ac) (aJ (af (ao bB (aA 0) ai (ag _)) (~~~(dk pK 0x0 T.b_int mW ((gQ (ay jJ) (aA 1) (aA 2) (ag _))>=>aD))) ac) (aJ (af (ao bB (aA 0) ai (ag _)) (~~~(dk pK 0x0 T.b_int mW ((gQ bB (aA 1) (aA 2) (ag _))>=>aD))) ac) (aJ (af (ao bB (aA 0) ai (ag _)) (~~~(ay vM<$>aA 1<*>aA 2)) ac) (aJ (af (ao bB (aA 0) ai (ag _)) (~~~(ay wV<$>aA 1<*>aA 2)) ac) (~~~(ay wP<$>aA 1<*>aA 2)))))))))),?_];have hw:wide=281474976710656:=rfl;show#[45,?_];by_cases k1:s="+"
   . refine ah (Hf (Hr V.str k1)) ?_;have e:valOf s a b=(a+b)%wide:=by unfold valOf; rw[He k1]
     rw[e] at q;show#[5427,#[#[],#[],#[]],19,iw,vq (Hr V.int (Hr (λz=>(a+b)%z) iC)) q]
   refine aa (λz=>k1 (V.str.inj (bG z))) ?_;show#[45,?_];by_cases k2:s="-"
   . refine ah (Hf (Hr V.str k2)) ?_;have e:valOf s a b=(a - b)%wide:=by unfold valOf; rw[HX k1,He k2]
     rw[e] at q;show#[5427,#[#[],#[],#[]],19,iw,vq (Hr V.int (Hr (λz=>(a - b)%z) iC)) q]
   refine aa (λz=>k2 (V.str.inj (bG z))) ?_;show#[45,?_];by_cases k3:s="*"
   . refine ah (Hf (Hr V.str k3)) ?_;have e:valOf s a b=(a * b)%wide:=by unfold valOf; rw[HX k1,HX k2,He k3]
     rw[e] at q;show#[339,.inl #[∅,∅],19,#[#[],#[],#[]],19,iw,vq (Hr V.int (Hr (λz=>(a * b)%z) iC)) q]
   refine aa (λz=>k3 (V.str.inj (bG z))) ?_;show#[45,?_];by_cases k4:s="/"
   . refine ah (Hf (Hr V.str k4)) ?_;have e:valOf s a b=if b=0 then 0 else a / b:=by unfold valOf; rw[HX k1,HX k2,HX k3,He k4]
     rw[e] at q;show#[45,?_];by_cases hb:b=0
     . rw[He hb] at q;exact ah (Hf (Hr V.int hb)) q
     . rw[HX hb] at q;exact aa (λz=>hb (V.int.inj (bG z))) #[339,#[∅,∅],q]
   refine aa (λz=>k4 (V.str.inj (bG z))) ?_;show#[45,?_];by_cases k5:s="<"
   . refine ah (Hf (Hr V.str k5)) ?_;have e:valOf s a b=if a<b then 1 else 0:=by unfold valOf; rw[HX k1,HX k2,HX k3,HX k4,He k5]
     rw[e] at q;show#[339,.inr #[5,vq ?_ q]];by_cases hb:a<b <;> simp [hb]
   refine aa (λz=>k5 (V.str.inj (bG z))) ?_;show#[45,?_];by_cases k6:s="="
   . refine ah (Hf (Hr V.str k6)) ?_;have e:valOf s a b=if a=b then 1 else 0:=by unfold valOf; rw[HX k1,HX k2,HX k3,HX k4,HX k5,He k6]
     rw[e] at q;show#[43,.inr #[5,vq ?_ q]];by_cases hb:a=b <;> simp [hb]
   refine aa (λz=>k6 (V.str.inj (bG z))) ?_;show#[45,?_];by_cases k7:s="&"
   . refine ah (Hf (Hr V.str k7)) ?_;have e:valOf s a b=Builtin.bitAnd a b:=by unfold valOf bw; rw[HX k1,HX k2,HX k3,HX k4,HX k5,HX k6,He k7]
     rw[e] at q;show#[339,q]
   refine aa (λz=>k7 (V.str.inj (bG z))) ?_;show#[45,?_];by_cases k8:s="|"
   . refine ah (Hf (Hr V.str k8)) ?_;have e:valOf s a b=Builtin.bitOr a b:=by unfold valOf bw; rw[HX k1,HX k2,HX k3,HX k4,HX k5,HX k6,HX k7,He k8]
     rw[e] at q;show#[339,q]
   refine aa (λz=>k8 (V.str.inj (bG z))) ?_;have e:valOf s a b=Builtin.bitXor a b:=by unfold valOf bw; rw[HX k1,HX k2,HX k3,HX k4,HX k5,HX k6,HX k7,HX k8]
   rw[e] at q;show#[339,q]
def FF:FnScope ["_law_cell"] ["_law_cell"] (aS nq):=by walk_at "s"
def BB (T:Txt K mg t):FnOk P w K mg base CX0 1 t.xk t.yy ["_law_cell"] (CT K):=by
 refine T.lX.F.ok FF (λvs H Q E h=>?_) (λcdv A outer s H vs Q E hr h=>?_)
 . let#[_,rfl,_]:=h;rfl
 . let#[c,rfl,q]:=h;show#[_,(aJ (af (ao bB (aV bH<$>aA 0<*>aH) aH (ag _)) (~~~(aV bH<$>(aV cK<$>aA 0<*>aH)<*>(aV iq<$>aH<*>aH))) ac) (aJ (af (ao bB (aV bH<$>aA 0<*>aH) aH (ag _)) (~~~(ay fq<$>(ay fq<$>(aV iq<$>aH<*>aH)<*>aH)<*>(aV bH<$>(aV cK<$>aA 0<*>aH)<*>aH))) ac) (~~~(aV bH<$>(aV cK<$>aA 0<*>aH)<*>aH)))),?_];have hw:wide=281474976710656:=rfl;have m:∀z n:Int,0<n->0<=z%n/\z%n<n:=λz n hn=>#[JT _ ∅,JN _ hn]
   show#[83,(show(0:Int)<3 by decide),13,?_];refine qX (λ_=>?_) (λ_=>?_)
   . have:=m (c / 3) wide #[];show#[83,#[#[],#[]],19,#[#[],#[],#[]],19,iw,vq (Hr V.int (Hr (λz=>c / 3%z) iC)) (q _ this.1 this.2)]
   show#[83,(show(0:Int)<3 by decide),13,?_];refine qX (λ_=>?_) (λ_=>?_)
   . have:=m (c / 3) 4 #[];show#[19,#[#[],#[],#[]],1235,#[#[],#[]],19,(show(0:Int)<4 by decide),19,?_];have e:(2:Int) ^ (48:Int).toNat - 1 - c / 3%4=wide - 1 - c / 3%4:=by rw[iC]
     exact vq (Hr V.int e) (q _ ∅ ∅)
   . have:=m (c / 3) 5 #[];show#[83,#[#[],#[]],19,(show(0:Int)<5 by decide),q _ this.1 ∅]
end
end K38
namespace K38
open PySem L2 Gx Fl K41
section
variable {P:Program} {w:World} {K:L7} {mg:Str->Hl K'} {base:Heap} {t:Adr}
def gU:FnScope ["_law_cell","_law_many","_law_letters","_law_size","_law_word","_law_at","_law_found","_law_k","_law_name"] ["_law_cell","_law_many"] (aS fY):=by walk_at "s"
def Ar (T:Txt K mg t):FnOk P w K mg base CX0 1 t.xj t.yx ["_law_cell","_law_many"] (EU K):=by
 refine T.rV.F.ok gU (λvs H Q E h=>?_) (λcdv A outer s H vs Q E hr h=>?_)
 . let#[_,_,rfl,_]:=h;rfl
 . skip
   refine lx ?_;intro XX;refine(let W6:TS:=_; have hW6:aO XX ((aP fY).drop 6) W6:=(~~~(aA 6)); ?_);refine(let W5:TS:=_; have hW5:aO XX ((aP fY).drop 5) W5:=(aJ (bu PassesOwn.never rfl (cw rfl T.b_range (aA 1>=>aD)) (aY (i:=7) gU.nd rfl 0x4) (aJ (pS 8 gU.nd (mQ<$>(mQ<$>(eO qP (aA 4) fR (dz (aA 5)))<*>(ae pE (aA 2) (aV bH<$>(ay bc<$>(aV cK<$>aA 0<*>aH)<*>aA 7)<*>aH) 0x5))<*>(eO qP (aA 4) (dz (aA 5)) fR))) (aJ (af (ao jj (aA 8) (@uc _ _ [V.str "fn",V.str "in",V.str "new",V.str "get",V.str "put",V.str "call",V.str "out",V.str "if",V.str "while",V.str "else",V.str "end",V.str "back"] (by kernel_rfl)) (by with_unfolding_all rfl)) (@aK _ _ _ (pS 8 gU.nd (mQ<$>aA 8<*>ai))) ac) (@aK _ _ _ (@bW _ _ _ _ (cU Ht IK IL g9 (aA 6) (aA 8>=>aD)) 0x0))))) @hW6); ?_);refine(let W4:TS:=_; have hW4:aO XX ((aP fY).drop 4) W4:=(aJ (pS 6 gU.nd (bI aD)) @hW5); ?_);refine(let W3:TS:=_; have hW3:aO XX ((aP fY).drop 3) W3:=(aJ (pS 5 gU.nd (aV bH<$>(aV cK<$>aA 0<*>aH)<*>(ay bc<$>aA 3<*>aH))) @hW4); ?_);refine(let W2:TS:=_; have hW2:aO XX ((aP fY).drop 2) W2:=(aJ (pS 4 gU.nd (cU PySem.F.plainAttrs_str PySem.F.slot_str_join PySem.F.type_str_join sN ai ((dN (N':=["_law_k","_law_letters","_law_cell"]) (js:=[none,some 2,some 0]) (by kernel_rfl) rfl (cw rfl T.b_range (aA 3>=>aD)) dH (λ_ _ _ _=>(aY (i:=0) (show(["_law_k","_law_letters","_law_cell"]:List Str).Nodup by decide +kernel) rfl 0x4 (.inr rfl))) (λ_ _ _ _=>cr) (λ_ _ _ _=>(ae pE (aA 1) (aV bH<$>(aV cK<$>(aV bH<$>(aV fX<$>aA 2<*>(ay bc<$>aH<*>(aV fX<$>aH<*>aA 0)))<*>aH)<*>aH)<*>aH) 0x5)))>=>aD))) @hW3); ?_);refine(let W1:TS:=_; have hW1:aO XX ((aP fY).drop 1) W1:=(aJ (pS 3 gU.nd (aV bH<$>aA 0<*>aH)) @hW2); ?_);let#[c,mn,rfl,hmn,q]:=h;show#[_,(aJ (pS 2 gU.nd ai) @hW1),?_];have b8:=gd c 8 #[];let#[sz,es]:=Iv b8.1;have s8:sz<8:=by lia
   have lf:K12.lets.length<=sizeLine:=by decide +kernel
   show#[83,(show(0:Int)<8 by decide),?_];show#[53,∅,∅,λu hu=>AM (λi=>V.str (tx [lc (c * (48271+2 * (0+(i:Int)))%2147483647 / 9%26)])) ∅ hu ?_ ?_]
   . rintro i H2 Rr hi s2 hR;have bi:=gd (c * (48271+2 * (0+(i:Int)))%2147483647 / 9) 26 #[];show#[1363,.inl #[#[],#[]],307,.inr #[∅,∅],19,(show(0:Int)<2147483647 by decide),19,#[#[],#[]],19,(show(0:Int)<26 by decide),35,lf,uO bi.1 bi.2,hR]
   rintro H2 s2 e2;have en:(c%8).toNat=sz:=by lia
   rw[en] at e2;have e3:((List.range sz).map λi:Nat=>V.str (tx [lc (c * (48271+2 * (0+(i:Int)))%2147483647 / 9%26)]))=(((List.range sz).map λi:Nat=>[lc (c * (48271+2 * (0+(i:Int)))%2147483647 / 9%26)]).map tx).map V.str:=by rw[Iq,Iq];rfl
   rw[e3] at e2;have so:∀l:List Nat,(((l.map λi:Nat=>[lc (c * (48271+2 * (0+(i:Int)))%2147483647 / 9%26)]).map tx).map (·.length)).sum=l.length:=λl=>by
     induction l with
     | nil=>rfl
     | cons x l ih=>rw[IF,IF,IF,Kz,ih,dW,II]; simp; lia
   have fo:∀l:List Nat,(l.map λi:Nat=>[lc (c * (48271+2 * (0+(i:Int)))%2147483647 / 9%26)]).flatten=l.map λi:Nat=>lc (c * (48271+2 * (0+(i:Int)))%2147483647 / 9%26):=λl=>by
     induction l with
     | nil=>rfl
     | cons x l ih=>rw[IF,J2,ih]; rfl
   show#[_,u,11,aE.of e2,(by rw[so,JY,HS,HS,JY]; show sz+sz * 0<=16777216; lia),?_];rw[qj,fo];have hWl:((List.range sz).map λi:Nat=>lc (c * (48271+2 * (0+(i:Int)))%2147483647 / 9%26)).length=sz:=by rw[HS,JY]
   have hWm:∀x∈((List.range sz).map λi:Nat=>lc (c * (48271+2 * (0+(i:Int)))%2147483647 / 9%26)),x∈K12.lets.cps.toList:=λx hx=>by let#[i,_,rfl]:=IJ.mp hx;have bi:=gd (c * (48271+2 * (0+(i:Int)))%2147483647 / 9) 26 #[];exact wQ bi.1 bi.2
   generalize ((List.range sz).map λi:Nat=>lc (c * (48271+2 * (0+(i:Int)))%2147483647 / 9%26))=W at hWl hWm ⊢;have wf:(tx W).length<=sizeLine:=by rw[dW]; exact gD ∅
   have ba:=gd (c / 8) (c%8+1) ∅;let#[a,ea]:=Iv ba.1;have aW:a<=W.length:=by lia
   show#[83,#[#[],#[]],1331,(by show(0:Int)<c%8+1; lia),?_];show#[cO,λl hl=>?_];have hlH:H l=none:=s2.free hl;show#[21,∅,∅,?_];refine(let Jv1:Nat->St->Hp->Prop:=λi σ H3=>aB H H3/\(∃v7 v8,σ=[⇑(.int c),⇑(.int mn),⇑(.str K12.lets),⇑(.int (c%8)),⇑(.str (tx W)),⇑(.int (c / 8%(c%8+1))),⇑↥l,v7,v8])/\H3 l=⇑(.lst (((List.range i).map (nmk W a (c / 64))).map V.str)); fH (lo:=0) (n:=mn) Jv1 #[s2\(aB.new hl),#[9],aI] ?_ ?_)
   . rintro i σ H3 hi ⟨s3,⟨v7,v8,rfl⟩,e3⟩;have bi:=gd (c / 64+(0+(i:Int))) 26 #[];have ei:(c / 64+(0+(i:Int)))%26=(c / 64+(i:Int))%26:=by rw[Io]
     show#[341,wf,?_];rw[show(⇑(c / 8%(c%8+1)):Hl Int)=⇑((a:Nat):Int) by rw[ea],tx_to aW];show#[339,#[#[],#[]],1331,(show(0:Int)<26 by decide),35,lf,uO bi.1 bi.2,?_];show#[19,(by rw[dW,IE]; exact gD (by show min a W.length+1<1000000; lia)),?_];show#[341,wf,?_];rw[show(⇑(c / 8%(c%8+1)):Hl Int)=⇑((a:Nat):Int) by rw[ea],FG aW];have eB:tx (W.take a)++(⟨(List.toArray [lc ((c / 64+(0+(i:Int)))%26)])⟩:Str)++tx (W.drop a)=tx (di W a (c / 64) i):=by rw[show(#[(List.toArray [lc ((c / 64+(0+(i:Int)))%26)])]:Str)=tx [lc ((c / 64+(0+(i:Int)))%26)] from rfl,lD,lD,ei];rfl
     have bl:=bse_len W a (c / 64) i;show#[19,?_,?_]
     . rw[show(#[(List.toArray [lc ((c / 64+(0+(i:Int)))%26)])]:Str)=tx [lc ((c / 64+(0+(i:Int)))%26)] from rfl,lD,dW,dW,HZ,IE,J5];exact gD (by simp; lia)
     rw[eB];show#[5,(by show 12<=sizeLine; decide),λtl htl=>#[tl,5,.inl (aE.of aI),rfl,0x7,5,?_]];have s4:=s3\(aB.new (o:=.lst jF) htl);have e4:=aB.new (o:=.lst jF) htl _ _ e3;have nx:∀s:Str,s=nmk W a (c / 64) i->aB H (upd (upd H3 tl (.lst jF)) l (.lst (((List.range i).map (nmk W a (c / 64))).map V.str++[V.str s])))/\(upd (upd H3 tl (.lst jF)) l (.lst (((List.range i).map (nmk W a (c / 64))).map V.str++[V.str s]))) l=⇑(.lst (((List.range (i+1)).map (nmk W a (c / 64))).map V.str)):=λs hs=>by show#[s4.upd hlH,?_];rw[aI,hs,Ju,Hq,Hq];rfl
     have fitl:(((List.range i).map (nmk W a (c / 64))).map V.str).length<sizeLine:=by rw[HS,HS,JY]; exact vU ∅
     by_cases ht:eS (.str (tx (di W a (c / 64) i))) jF=true
     . have en:tx (di W a (c / 64) i)++("x":Str)=nmk W a (c / 64) i:=by unfold nmk;rw[He ht];exact lD _ [120]
       refine ah ht #[83,(by rw[dW,bl]; exact gD (by show W.length+1+1<1000000; lia)),?_];let#[x1,x2]:=nx _ en;show#[5,.inl #[6,aE.of e4],5,l,19,e4,fitl,x1,#[9],x2]
     . have en:tx (di W a (c / 64) i)=nmk W a (c / 64) i:=by unfold nmk;rw[HX ht]
       refine aa ht ?_;let#[x1,x2]:=nx _ en;show#[5,.inl #[6,aE.of e4],5,l,19,e4,fitl,x1,#[9],x2]
   . rintro σ H3 ⟨s3,⟨v7,v8,rfl⟩,e3⟩;show#[5,q _ (by rw[HS,JY]) ?_ (λw hw=>?_) (λw hw=>?_) l H3 s3 hlH e3]
     . exact List.pairwise_map.mpr (List.Pairwise.imp_of_mem (λ{x y} hx hy hne h=>hne (Bt (by have:=KR.mp hx; lia) (by have:=KR.mp hy; lia) h)) List.nodup_range)
     . let#[k,_,rfl]:=IJ.mp hw;exact C3 hWm ∅
     . let#[k,_,rfl]:=IJ.mp hw;exact Cw.nmk_ne
end
end K38
namespace K38
open PySem L2 K21 Rk2
section
variable {P:Program} {w:World} {K:L7} {mg:Str->Hl K'} {base:Heap} {t:Adr}
def uA:FnScope ["_law_one","_law_boxes"] ["_law_one","_law_boxes"] (aS ng):=by walk_at "s"
def rC (T:Txt K mg t):∀n,FnOk P w K mg base CX0 (n+1) t.lR t.lU ["_law_one","_law_boxes"] (nP K n)
| 0=>T.jZ.F.ok uA (λvs H Q E h=>by let#[tr,v,d,kvs,rfl,hd,hR,hD,dv,ok,q]:=h; exact absurd hd (Ir _)) (λcdv A outer s H vs Q E hr h=>by let#[tr,v,d,kvs,rfl,hd,hR,hD,dv,ok,q]:=h; exact absurd hd (Ir _))
| n+1=>by
 have QW:=Cr (P:=P) (w:=w) (base:=base) T;have Qe:FnOk P w K mg base CX0 (n+1) t.lR t.lU ["_law_one","_law_boxes"] (nP K n):=rC T n;refine T.jZ.F.ok uA (λvs H Q E h=>?_) (λcdv A outer s H vs Q E hr h=>?_)
 . let#[_,_,_,_,rfl,_]:=h;rfl
 . let#[tr,v,d,kvs,rfl,hd,hR,hD,dv,ok,q]:=h;show#[_,(aJ (af (ao bB (iT K (aA 0)) ai (ag _)) (~~~(pQ (bY hr.units) (aA 1) (iT K (aA 0)) aH #[31])) ac) (aJ (af (ao bB (iT K (aA 0)) ai (ag _)) (~~~(iT K (aA 0))) ac) (~~~(cP T.zP QW (hr.mono ∅) ((iT K (aA 0))>=>(cP T.jZ Qe (hr.mono ∅) ((iT K (aA 0))>=>aA 1>=>aD))>=>(cP T.jZ Qe (hr.mono ∅) ((iT K (aA 0))>=>aA 1>=>aD))>=>aD))))),?_];cases tr with
   | box k =>
     let#[p,rfl,e]:=hR;show#[5,p,35,aG.of e,bU,13,ah (Hf rfl) ?_];show#[5,d,rfl,.inl #[kvs,.inl hD],5,p,35,aG.of e,6,dA.k (k:=Sum.inl k) hD,vq (wk dv k) q]
   | num k =>
     let#[p,rfl,e]:=hR;show#[5,p,35,aG.of e,bU,13,aa (λz=>Ep (V.str.inj (bG z))) ?_];show#[5,p,35,aG.of e,bU,13,ah (Hf rfl) #[5,p,35,aG.of e,rfl,q]]
   | op s l r =>
     let#[p,x,y,rfl,e,n1,n2,hx,hy]:=hR;have d1:dp l<n:=by have:max (dp l) (dp r)+1<n+1:=hd; lia
     have d2:dp r<n:=by have:max (dp l) (dp r)+1<n+1:=hd; lia
     let#[o1,o2]:=px ok;have b1:=i9 (kR dv) o1;have b2:=i9 (kR dv) o2;show#[5,p,35,aG.of e,bU,13,aa (λz=>n1 (V.str.inj (bG z))) ?_];show#[5,p,35,aG.of e,bU,13,aa (λz=>n2 (V.str.inj (bG z))) ?_];show#[5,p,35,aG.of e,bU,5,p,35,aG.of e,13,l,x,d,kvs,rfl,d1,hx,hD,dv,o1,5,p,35,aG.of e,13,r,y,d,kvs,rfl,d2,hy,hD,dv,o2,s,9,b1.1,b2.1,b1.2,b2.2,q]
end
end K38
namespace K38
open PySem L2 K21 Rk2 Bg
section
variable {P:Program} {w:World} {K:L7} {mg:Str->Hl K'} {base:Heap} {t:Adr}
def fZ:FnScope ["_law_cell","_law_boxes","_law_one","_law_k","_law_number_here","_law_sign","_law_other"] ["_law_cell","_law_boxes"] (aS iM):=by walk_at "s"
def wJ (T:Txt K mg t):FnOk P w K mg base CX0 1 t.xm t.z6 ["_law_cell","_law_boxes"] (D9 K):=by
 refine T.rX.F.ok fZ (λvs H Q E h=>?_) (λcdv A outer s H vs Q E hr h=>?_)
 . let#[_,_,_,rfl,_]:=h;rfl
 . skip
   refine lx ?_;intro XX;refine(let W3:TS:=_; have hW3:aO XX ((aP iM).drop 3) W3:=(~~~(aA 2)); ?_);refine(let W2:TS:=_; have hW2:aO XX ((aP iM).drop 2) W2:=(aJ (bu PassesOwn.never rfl (cw rfl T.b_range ((iY K (bI ((aV bH<$>(aV cK<$>aA 0<*>aH)<*>aH)>=>aH>=>aD)) (dk pK 0x0 T.b_int mW ((gQ bB (aV bH<$>(aV cK<$>aA 0<*>aH)<*>aH) aH (ag _))>=>aD)))>=>aD)) (aY (i:=3) fZ.nd rfl 0x4) (aJ (pS 4 fZ.nd (aV cK<$>(aV bH<$>(aV fX<$>aA 0<*>(ay bc<$>aH<*>(aV fX<$>aH<*>aA 3)))<*>aH)<*>aH)) (aJ (pS 5 fZ.nd (ae pE ai (aV bH<$>(aV cK<$>aA 4<*>aH)<*>aH) 0x5)) (aJ (pS 6 fZ.nd (bD (ai>=>(iY K (aA 1) (aV bH<$>(aV cK<$>aA 4<*>aH)<*>(az 0x1 0x0 T.b_len bV (aA 1>=>aD))))>=>aD))) (aJ (af (ao bB (aV bH<$>(aV cK<$>aA 4<*>aH)<*>aH) aH (ag _)) (@aK _ _ _ (pS 6 fZ.nd (bD (ai>=>(aV bH<$>(aV cK<$>aA 4<*>aH)<*>aH)>=>aD)))) ac) (@aK _ _ _ (af (ao bB (aV bH<$>aA 4<*>aH) aH (ag _)) (@aK _ _ _ (pS 2 fZ.nd (bD (aA 5>=>aA 2>=>aA 6>=>aD)))) (@aK _ _ _ (pS 2 fZ.nd (bD (aA 5>=>aA 6>=>aA 2>=>aD))))))))))) @hW3); ?_);refine(let W1:TS:=_; have hW1:aO XX ((aP iM).drop 1) W1:=(gN (af (ao (ay AG) (aV bH<$>aA 0<*>aH) aH (ag _)) (@aK _ _ _ (pS 2 fZ.nd (bD (ai>=>(iY K (aA 1) (aV bH<$>(aV cK<$>aA 0<*>aH)<*>(az 0x1 0x0 T.b_len bV (aA 1>=>aD))))>=>aD)))) ac) @hW2); ?_);let#[c,bl,bs,rfl,hB,hbs,q]:=h;show#[_,(aJ (pS 2 fZ.nd (bD (ai>=>(aV bH<$>(aV cK<$>aA 0<*>aH)<*>(aV iq<$>aH<*>aH))>=>aD))) @hW1),?_];have b5:=emod_bd' (c / 5) ((2:Int) ^ (48:Int).toNat) iw;rw[iC] at b5;show#[83,#[#[],#[]],19,#[#[],#[],#[]],19,iw,bL,λa0 k0=>?_];show#[λσ' G=>∃tr v,σ'=[⇑(.int c),⇑↥bl,⇑v,none,none,none,none]/\aB H G/\RAt G tr v/\TOk' 0 tr,?_,?_]
   . show#[83,(show(0:Int)<5 by decide),77,?_];by_cases h5:c%5 > 0
     . let#[b,e1,e2,e3]:=bx_at hbs (c / 5);refine ah (Hf h5) #[339,#[#[],#[]],5,bl,5,.inl ((aB.new k0).seq hB),19,e1,bl,35,(aB.new k0).seq hB,e2,bL,λa1 k1=>#[.box b,5,(aB.new k0)\(aB.new k1),#[a1,rfl,aI],uR e3]]
     . exact aa (by rw[JX]; exact h5) #[.num (c / 5%(2:Int) ^ (48:Int).toNat),5,aB.new k0,#[a0,rfl,aI],(by rw[iC]; exact tq b5.1 b5.2)]
   rintro σ' G ⟨tr0,v0,rfl,s0,r0,t0⟩;have b3:=emod_bd' (c / 40) 3 #[];obtain⟨bb,hbb⟩:∃b:Bool,decide (V.int (c / 120%8)=V.int 1)=b:=#[5]
   obtain⟨nn,hnn,hn7⟩:∃nn:Nat,aq [V.int (c / 40%3),V.int 7] (if bb=true then 1 else 0)=⇑(.int nn)/\nn<=7:=by
     cases bb with
     | true=>show#[(7),rfl,HY _]
     | false=>show#[(c / 40%3).toNat,by rw[Int.toNat_of_nonneg b3.1]; rfl,∅]
   show#[83,#[#[],#[]],19,(show(0:Int)<3 by decide),bL,λLb hLb=>?_];have s0:=s0\(aB.new (o:=.lst [V.int (c / 40%3),V.int 7]) hLb);have r0:=r0*>(aB.new (o:=.lst [V.int (c / 40%3),V.int 7]) hLb);show#[83,#[#[],#[]],19,(show(0:Int)<8 by decide),rfl,?_];rw[hbb];refine .inr #[bb,rfl,Lb,35,aE.of aI,hnn,5,∅,∅,(let Jv1:Nat->St->Hp->Prop:=λi σ H2=>∃tr v v3 v4 v5 v6,σ=[⇑(.int c),⇑↥bl,⇑v,v3,v4,v5,v6]/\aB H H2/\RAt H2 tr v/\TOk' i tr; fH (lo:=0) (n:=nn) Jv1 #[tr0,v0,33,s0,r0,t0] ?_ ?_)]
   . rintro i σ H2 hi ⟨tr,v,v3,v4,v5,v6,rfl,s1,r1,t1⟩;obtain⟨fc,hfc⟩:∃fc,(48271:Int)+2 * (0+(i:Int))=fc:=#[5]
     show#[339,.inr #[∅,∅],307,.inr #[∅,∅],19,(show(0:Int)<2147483647 by decide),19,#[#[],#[]],?_];rw[hfc];have s2:=s1;have r2:=r1;generalize H2=G2 at s2 r2 ⊢;let#[ch,hch]:=BJ (i:=c * fc%2147483647 / 3 / 2%9) (JT _ #[]) (JN _ #[]);have oc:=CU ch;show#[83,#[#[],#[]],19,(show(0:Int)<9 by decide),4,ch,7,EY,hch,?_];let#[b,e1,e2,e3]:=bx_at hbs (c * fc%2147483647 / 3 / 18);show#[339,#[#[],#[]],5,bl,5,.inl (s2.seq hB),19,e1,bl,35,s2.seq hB,e2,bL,λa2 k2=>?_];show#[83,#[#[],#[]],19,(show(0:Int)<4 by decide),13,?_];by_cases h4:c * fc%2147483647 / 3 / 144%4=0
     . have b9:=emod_bd' (c * fc%2147483647 / 3 / 576) 9 #[];refine ah (Hf (Hr V.int h4)) #[83,#[#[],#[]],19,(show(0:Int)<9 by decide),bL,λa3 k3=>?_];have s13:=(aB.new (o:=.tup [V.str "box",V.int b]) k2)\(aB.new (o:=.tup [V.str "num",V.int (c * fc%2147483647 / 3 / 576%9)]) k3);have s3:=s2\s13;have r3:RAt (upd (upd G2 a2 (.tup [V.str "box",V.int b])) a3 (.tup [V.str "num",V.int (c * fc%2147483647 / 3 / 576%9)])) (.num (c * fc%2147483647 / 3 / 576%9)) ↥a3:=#[a3,rfl,aI]
       have t3:TOk' i (.num (c * fc%2147483647 / 3 / 576%9)):=tq b9.1 (Int.lt_trans b9.2 #[]);have r1:=r2;show#[83,(show(0:Int)<2 by decide),13,?_];by_cases h2:c * fc%2147483647 / 3%2=0
       . refine ah (Hf (Hr V.int h2)) #[85,dU,λa4 k4=>?_];show#[.op #[(List.toArray [ch])] tr (.num (c * fc%2147483647 / 3 / 576%9)),65,s3\(aB.new k4),#[a4,9,aI,oc.1,oc.2,(r1*>s13).mono (aB.new k4),r3*>(aB.new k4)],mC (m8 hch) t1 t3]
       . refine aa (λz=>h2 (V.int.inj (bG z))) #[85,dU,λa4 k4=>?_];show#[.op #[(List.toArray [ch])] (.num (c * fc%2147483647 / 3 / 576%9)) tr,65,s3\(aB.new k4),#[a4,9,aI,oc.1,oc.2,r3*>(aB.new k4),(r1*>s13).mono (aB.new k4)],mC (m8 hch) t3 t1]
     . have s13:=aB.new (o:=.tup [V.str "box",V.int b]) k2;have s3:=s2\s13;have r3:RAt (upd G2 a2 (.tup [V.str "box",V.int b])) (.box b) ↥a2:=#[a2,rfl,aI]
       have t3:TOk' i (.box b):=uR e3;have r1:=r2;refine aa (λz=>h4 (V.int.inj (bG z))) #[83,(show(0:Int)<2 by decide),13,?_];by_cases h2:c * fc%2147483647 / 3%2=0
       . refine ah (Hf (Hr V.int h2)) #[85,dU,λa4 k4=>?_];show#[.op #[(List.toArray [ch])] tr (.box b),65,s3\(aB.new k4),#[a4,9,aI,oc.1,oc.2,(r1*>s13).mono (aB.new k4),r3*>(aB.new k4)],mC (m8 hch) t1 t3]
       . refine aa (λz=>h2 (V.int.inj (bG z))) #[85,dU,λa4 k4=>?_];show#[.op #[(List.toArray [ch])] (.box b) tr,65,s3\(aB.new k4),#[a4,9,aI,oc.1,oc.2,r3*>(aB.new k4),(r1*>s13).mono (aB.new k4)],mC (m8 hch) t3 t1]
   . rintro σ H2 ⟨tr,v,v3,v4,v5,v6,rfl,s1,r1,t1⟩;show#[5,q tr v H2 s1 r1 #[t1.1,t1.2.1,Hu t1.2.2.1 ∅,t1.2.2.2]]
end
end K38
namespace K38
open PySem L2 K21 Rk2
section
variable {P:Program} {w:World} {K:L7} {mg:Str->Hl K'} {base:Heap} {t:Adr}
def rn:FnScope ["_law_found","_law_due"] ["_law_found","_law_due"] (aS kz):=by walk_at "s"
def r9 (T:Txt K mg t):∀n,FnOk P w K mg base CX0 (n+1) t.lQ t.lT ["_law_found","_law_due"] (mO K n)
| 0=>T.jY.F.ok rn (λvs H Q E h=>by let#[tr,x,y,rfl,hd,h1,h2,q]:=h; exact absurd hd (Ir _)) (λcdv A outer s H vs Q E hr h=>by let#[tr,x,y,rfl,hd,h1,h2,q]:=h; exact absurd hd (Ir _))
| n+1=>by
 have Qf:FnOk P w K mg base CX0 (n+1) t.lQ t.lT ["_law_found","_law_due"] (mO K n):=r9 T n;have Qb:=mB (P:=P) (w:=w) (base:=base) T;refine T.jY.F.ok rn (λvs H Q E h=>?_) (λcdv A outer s H vs Q E hr h=>?_)
 . let#[_,_,_,rfl,_]:=h;rfl
 . skip
   refine lx ?_;intro XX;refine(let W2:TS:=_; have hW2:aO XX ((aP kz).drop 2) W2:=(aJ (af (ao bB (az 0x1 0x0 T.b_len bV (aA 1>=>aD)) aH (ag _)) (~~~(g7 (cP T.lY Qb (hr.mono ∅) ((iT K (aA 0))>=>aD)) (i5 (gQ bB (iT K (aA 0)) (iT K (aA 1)) (ag _))))) ac) (~~~(g7 (cP T.jY Qf (hr.mono ∅) ((iT K (aA 0))>=>(iT K (aA 1))>=>aD)) (i5 (cP T.jY Qf (hr.mono ∅) ((iT K (aA 0))>=>(iT K (aA 1))>=>aD)))))); ?_);let#[tr,x,y,rfl,hd,h1,h2,q]:=h;show#[_,(aJ (af (@PW.pt _ _ _ (dP (cX (cM (az kW 0x0 T.b_isinstance dh (aA 0>=>(gB (v:=V.ty "tuple") rfl T.b_tuple gW rfl)>=>aD)))) (dP (ao jS (az 0x1 0x0 T.b_len bV (aA 0>=>aD)) (az 0x1 0x0 T.b_len bV (aA 1>=>aD)) (ag _)) (eZ (cX (cM (az kW 0x0 T.b_isinstance dh ((iT K (aA 0))>=>(gB (v:=V.ty "str") rfl T.b_str uk rfl)>=>aD)))))))) (~~~bZ) ac) (aJ (af (ao jS (iT K (aA 0)) (iT K (aA 1)) (ag _)) (~~~bZ) ac) @hW2)),?_];cases tr with
   | box k =>
     let#[p1,rfl,e1]:=h1;let#[p2,rfl,e2]:=h2;show#[40,true,rfl,.tup e1,13,eg #[5,p1,5,.inr (aG.of e1),5,p2,5,.inr (aG.of e2),13,aa (λz=>Ho z) #[5,p1,35,aG.of e1,bU,8,true,rfl,.str _,13,eg ?_]]];show#[5,p1,35,aG.of e1,bU,5,p2,35,aG.of e2,bU,13,aa 0x8 ?_];show#[5,p2,5,.inr (aG.of e2),13,?_];exact ah rfl #[5,p1,35,aG.of e1,rfl,k,13,ah rfl #[5,p1,35,aG.of e1,13,p2,35,aG.of e2,7,vq (Hr V.bl (Hf rfl)) q]]
   | num k =>
     let#[p1,rfl,e1]:=h1;let#[p2,rfl,e2]:=h2;show#[40,true,rfl,.tup e1,13,eg #[5,p1,5,.inr (aG.of e1),5,p2,5,.inr (aG.of e2),13,aa (λz=>Ho z) #[5,p1,35,aG.of e1,bU,8,true,rfl,.str _,13,eg ?_]]];show#[5,p1,35,aG.of e1,bU,5,p2,35,aG.of e2,bU,13,aa 0x8 ?_];show#[5,p2,5,.inr (aG.of e2),13,?_];exact ah rfl #[5,p1,35,aG.of e1,rfl,k,13,ah rfl #[5,p1,35,aG.of e1,13,p2,35,aG.of e2,7,vq (Hr V.bl (Hf rfl)) q]]
   | op s l r =>
     let#[p1,x1,y1,rfl,e1,a1,b1,f1,g1]:=h1;let#[p2,x2,y2,rfl,e2,a2,b2,f2,g2]:=h2;have d1:dp l<n:=by have:max (dp l) (dp r)+1<n+1:=hd; lia
     have d2:dp r<n:=by have:max (dp l) (dp r)+1<n+1:=hd; lia
     show#[40,true,rfl,.tup e1,13,eg #[5,p1,5,.inr (aG.of e1),5,p2,5,.inr (aG.of e2),13,aa (λz=>Ho z) #[5,p1,35,aG.of e1,bU,8,true,rfl,.str _,13,eg ?_]]];show#[5,p1,35,aG.of e1,bU,5,p2,35,aG.of e2,bU,13,aa 0x8 ?_];show#[5,p2,5,.inr (aG.of e2),13,?_];refine aa (λz=>Ho z) #[5,p1,35,aG.of e1,13,p2,35,aG.of e2,rfl,l,x1,x2,rfl,d1,f1,f2,5,ah rfl #[5,p1,35,aG.of e1,13,p2,35,aG.of e2,rfl,r,y1,y2,rfl,d2,g1,g2,q]]
end
end K38
namespace K38
open PySem L2 Gx Fl Cw
section
variable {P:Program} {w:World} {K:L7} {mg:Str->Hl K'} {base:Heap} {t:Adr}
def vj:FnScope ["_law_found","_law_due","_law_frame"] ["_law_found","_law_due"] (aS jA):=by walk_at "s"
def BF (T:Txt K mg t):FnOk P w K mg base CX0 2 t.xZ t.yq ["_law_found","_law_due"] (G7 K):=by
 have Qb:=mB (P:=P) (w:=w) (base:=base) T;refine T.zK.F.ok vj (λvs H Q E h=>?_) (λcdv A outer s H vs Q E hr h=>?_)
 . let#[_,_,_,_,_,rfl,_]:=h;rfl
 . skip
   refine lx ?_;intro XX;refine(let W2:TS:=_; have hW2:aO XX ((aP jA).drop 2) W2:=(~~~(gQ (zm hr.units) (aA 0) (aA 1) (ag _))); ?_);refine(let W1:TS:=_; have hW1:aO XX ((aP jA).drop 1) W1:=(aJ (bu PassesOwn.never rfl (d7 (aA 0)) (aY (i:=2) vj.nd rfl 0x4) (@aK _ _ _ (af (@PW.pt _ _ _ (dP (cX (cM (az nV 0x0 T.b_isinstance dh (aA 2>=>(gB (v:=V.ty "tuple") rfl T.b_tuple gW rfl)>=>aD)))) (dP (ao jS (az 0x1 0x0 T.b_len bV (aA 2>=>aD)) aH (ag _)) (eZ (cX (cM (cD T.lY Qb hr ((iT K (aA 2))>=>aD)))))))) (~~~bZ) ac))) @hW2); ?_);let#[l1,l2,us,ws,ch,rfl,h1,h2,p1,p2,ok,q]:=h;show#[_,(aJ (af (@PW.pt _ _ _ (dP (cX (cM (az nV 0x0 T.b_isinstance dh (aA 0>=>(gB (v:=V.ty "list") rfl T.b_list j7 rfl)>=>aD)))) (eZ (ao jS (az 0x1 0x0 T.b_len bV (aA 0>=>aD)) (az 0x1 0x0 T.b_len bV (aA 1>=>aD)) (ag _))))) (~~~bZ) ac) @hW1),?_];have lu:=Rk2.Ps.len p1;have lw:=Rk2.Ps.len p2;show#[10,"list",_,true,rfl,.lst h1,13,iN #[5,l1,5,.inl h1,5,l2,5,.inl h2,13,aa (by rw[lu,lw]; simp) ?_]];show#[5,l1,rfl,#[_,h1],(let Jv1:Nat->St->Hp->Prop:=λi σ H2=>H2=H/\∃v2,σ=[⇑↥l1,⇑↥l2,v2]; gP (xs:=us) Jv1 #[13] ?_ ?_ ?_)]
   . rintro i σ H2 hi ⟨rfl,_⟩;exact h1
   . rintro i x σ H2 hx ⟨rfl,v2,rfl⟩;have hi:i<ch.length:=by have:=(HV.mp hx).1; lia
     let#[v,hv,qa,rfl,hq]:=c8 p1 (HU hi);rw[hx] at hv;cases hv;show#[10,"tuple",_,true,rfl,.tup hq,13,iN #[5,qa,5,.inr hq,13,aa (show ¬ (!decide (V.int ((2:Nat):Int)=V.int 2))=true by decide) #[5,qa,35,hq,53,iN #[13]]]]
   . rintro σ H2 ⟨rfl,v2,rfl⟩;show#[21,(Bg.Twin.lst h1 h2 (wN p1 p2 ok)).eq #[] q]
def vF:FnScope ["_law_own","_law_names_here","_law_many","_law_rows"] ["_law_own","_law_names_here","_law_many"] (aS jo):=by walk_at "s"
def AA (T:Txt K mg t):FnOk P w K mg base CX0 1 t.xf t.yr ["_law_own","_law_names_here","_law_many"] (F8 K):=by
 refine T.zL.F.ok vF (λvs H Q E h=>?_) (λcdv A outer s H vs Q E hr h=>?_)
 . let#[_,_,_,_,rfl,_]:=h;rfl
 . skip
   refine lx ?_;intro XX;refine(let W1:TS:=_; have hW1:aO XX ((aP jo).drop 1) W1:=(~~~(bD (aA 0>=>bZ>=>(dk jH 0x0 T.b_tuple gW ((eO hJ (aA 1) fR (dz (aA 2)))>=>aD))>=>(dk jH 0x0 T.b_tuple gW (aA 3>=>aD))>=>aD))); ?_);let#[own,nl,ws,m,rfl,hn,ne,l8,nd,nm,m7,q]:=h;show#[_,(aJ (pS 3 vF.nd (mJ<$>(dN (N':=["_law_name"]) (js:=[none]) (by kernel_rfl) rfl (d7 (eO hJ (aA 1) (dz (aA 2)) fR)) dH (λ_ _ _ _=>(aY (i:=0) (show(["_law_name"]:List Str).Nodup by decide +kernel) rfl 0x4 (.inr rfl))) (λ_ _ _ _=>cr) (λ_ _ _ _=>(bD (ai>=>aA 0>=>aH>=>aD))))<*>(bI ((bD (ai>=>(iL K (aA 1))>=>aD))>=>(bD (ai>=>aH>=>aD))>=>aD)))) @hW1),?_];obtain⟨lst,hat,hlm⟩:∃lst,aq (ws.map V.str) 0=⇑(.str lst)/\lst∈ws:=by
     cases ws with
     | nil=>exact absurd rfl ne
     | cons x xs=>show#[x,(show aq _ ((0:Nat):Int)=_ from bv rfl),Hj]
   show#[85,nl,5,hn,λsl hsl=>?_];rw[Ck,<- List.map_drop];have s1:=aB.new (o:=.lst ((ws.drop m).map V.str)) hsl;have e1:=aE.of (K:=K) (aI (H:=H) (a:=sl) (o:=.lst ((ws.drop m).map V.str)));generalize upd H sl (.lst ((ws.drop m).map V.str))=H1 at s1 e1 ⊢;show#[sl,rfl,#[_,e1],λpL hpL=>iH (K:=K) (λi G v=>∃q n,(ws.drop m)[i]?=⇑n/\v=↥q/\aG K G q [.str "copy",.str n,.int 0]) (λ_ _ _ _ z z224_=>by let#[q,n,z1,z2,z3]:=z224_; show#[q,n,z1,z2,z<*z3]) (by rw[HS,J5]; lia) e1 hpL ?_ ?_]
   . rintro i x G R_ hx sG ⟨acc,eacc⟩ kk;have hi:i<(ws.drop m).length:=by have:=(HV.mp hx).1; rwa [HS] at this
     rw[Hk,HU hi] at hx;cases hx;show#[5,dU,λb hb=>kk _ _ (aB.new hb) #[b,_,HU hi,rfl,aG.of ?_]];rw[ak λz=>by rw[z,eacc] at hb; cases hb];exact aI
   . rintro H3 vs s3 e3 l3 t3;rw[HS] at l3;have s13:=s1\s3;show#[5,nl,35,s13.seq hn,hat,bL,λc hc=>#[bL,λb hb=>#[bL,λl2 hl2=>?_]]];have sc:=aB.new (o:=.tup [.str "out",.str lst]) hc;have ec:=aG.of (K:=K) (aI (H:=H3) (a:=c) (o:=.tup [.str "out",.str lst]));generalize upd H3 c (.tup [.str "out",.str lst])=H4 at sc ec hb hl2 ⊢;have sb:=aB.new (o:=.tup [.str "back",.int 0]) hb;have eb:=aG.of (K:=K) (aI (H:=H4) (a:=b) (o:=.tup [.str "back",.int 0]));generalize upd H4 b (.tup [.str "back",.int 0])=H5 at sb eb hl2 ⊢;have s5:=sc\sb;have s6:=aB.new (o:=.lst [↥c,↥b]) hl2;show#[pL,l2,19,(s5\s6) _ _ e3,aI,fJ (by rw[J5] at l3; show vs.length+2<_; lia),λp hp=>?_];have s7:=s6\(aB.new (o:=.lst (vs++[↥c,↥b])) hp);have e7:=aE.of (K:=K) (aI (H:=upd H5 l2 (.lst [↥c,↥b])) (a:=p) (o:=.lst (vs++[↥c,↥b])));generalize upd (upd H5 l2 (.lst [↥c,↥b])) p (.lst (vs++[↥c,↥b]))=H7 at s7 e7 ⊢;have s57:=s5\s7;show#[341,nl,5,(s13\s57).seq hn,λx8 h8=>?_];rw[qi,<- List.map_take];have s8:=aB.new (o:=.lst ((ws.take m).map V.str)) h8;show#[x8,5,.inl #[aE.of aI,λqC hqC=>?_]];have s9:=s8\(aB.new (o:=.tup ((ws.take m).map V.str)) hqC);have e9:=aG.of (K:=K) (aI (H:=upd H7 x8 (.lst ((ws.take m).map V.str))) (a:=qC) (o:=.tup ((ws.take m).map V.str)));generalize upd (upd H7 x8 (.lst ((ws.take m).map V.str))) qC (.tup ((ws.take m).map V.str))=H9 at s9 e9 ⊢;show#[5,p,5,.inl #[s9.seq e7,λtr htr=>#[gO,λfa hfa=>?_]]];have s10:=aB.new (o:=.tup (vs++[↥c,↥b])) htr;have s11:=aB.new (o:=.tup [.str own,.bl false,↥qC,↥tr]) hfa;have sA:=s9\(s10\s11);have npd:∀{q:L6} {xs:List V},aG K (ers pL H3) q xs->aG K H3 q xs:=λz=>bO<*z;let#[la,rfl,ela,hla]:=uI (K:=K) (G:=H3) l3 λi v hv=>by let#[q,n,z1,z2,z3]:=t3 i v hv;show#[q,n,z1,z2,npd z3]
     have eAll:ws.take m++la.map (·.2)=ws:=by rw[ela]; exact List.take_append_drop m ws
     let#[F,f1,rfl,f3,f4,f5,f6]:=GN (K:=K) (ps:=ws.take m) (lst:=lst) (fo:=.bl false) la (aG.of aI) (s11<*(aG.of aI)) ((s10\s11)<*e9) (λx hx=>(s57\sA)<*(hla x hx)) (((sb\s7).trans sA)<*ec) ((s7\sA)<*eb) (by rw[eAll]; exact nd) (by rw[eAll]; exact hlm) (by rw[eAll]; exact nm) (by rw[eAll]; lia);exact q F _ ((s13\s57).trans sA) f1 f3 (f4\eAll) (f5\(by rw[IE]; lia)) (f6\(by rw[eAll]))
def fQ:FnScope ["_law_cell","_law_program","_law_first","_law_boxes","_law_chain","_law_views","_law_count","_law_k","_law_at","_law_rows","_law_view","_law_j","_law_number_here"] ["_law_cell","_law_program","_law_first","_law_boxes"] (aS jU):=by walk_at "s"
def Aj (T:Txt K mg t):FnOk P w K mg base CX0 2 t.xg t.yt ["_law_cell","_law_program","_law_first","_law_boxes"] (CQ K):=by
 have Qx:=wJ (P:=P) (w:=w) (base:=base) T;refine T.zM.F.ok fQ (λvs H Q E h=>?_) (λcdv A outer s H vs Q E hr h=>?_)
 . let#[_,_,_,_,_,_,rfl,_]:=h;rfl
 . skip
   refine lx ?_;intro XX;refine(let W4:TS:=_; have hW4:aO XX ((aP jU).drop 4) W4:=(~~~(bD ((dk jH 0x0 T.b_tuple gW (aA 4>=>aD))>=>aA 5>=>aD))); ?_);refine(let W2:TS:=_; have hW2:aO XX ((aP jU).drop 2) W2:=(aJ (pS 6 fQ.nd aH) (aJ (bu PassesOwn.never rfl (cw rfl T.b_range ((ay bc<$>aH<*>(aV bH<$>aA 0<*>aH))>=>aD)) (aY (i:=7) fQ.nd rfl 0x4) (aJ (pS 8 fQ.nd (iY K (bI (aA 2>=>(aV bH<$>(aV cK<$>aA 0<*>aH)<*>aH)>=>(aV bH<$>(aV cK<$>aA 0<*>aH)<*>aH)>=>aD)) (aA 7))) (aJ (pS 9 fQ.nd (iT K (iY K (aA 1) (aA 8)))) (aJ (@bW _ _ _ _ (cU Ht IK IL g9 (aA 4) ((bD ((iT K (iY K (aA 1) (aA 8)))>=>(aV bH<$>(aV cK<$>(aV bH<$>(aV fX<$>aA 0<*>(ay bc<$>aH<*>(aV fX<$>aH<*>aA 7)))<*>aH)<*>aH)<*>(az 0x1 0x0 T.b_len bV (aA 9>=>aD)))>=>aD))>=>aD)) 0x0) (aJ (pS 10 fQ.nd (bI aD)) (aJ (bu PassesOwn.never rfl (cw rfl T.b_range ((ay fq<$>(ay bc<$>(az 0x1 0x0 T.b_len bV ((iT K (iY K (aA 1) (aA 8)))>=>aD))<*>(az 0x1 0x0 T.b_len bV (aA 9>=>aD)))<*>aH)>=>aD)) (aY (i:=11) fQ.nd rfl 0x4) (aJ (pS 6 fQ.nd (ay bc<$>aA 6<*>aH)) (aJ (pS 12 fQ.nd (aV cK<$>(aV bH<$>(aV fX<$>aA 0<*>(ay bc<$>aH<*>(aV fX<$>aH<*>aA 6)))<*>aH)<*>aH)) (aJ (@bW _ _ _ _ (cU Ht IK IL g9 (aA 10) ((cD T.rX Qx hr ((aV cK<$>aA 12<*>aH)>=>aA 3>=>aD))>=>aD)) 0x0) (@aK _ _ _ (af (ao bB (aV bH<$>aA 12<*>aH) aH (ag _)) (@aK _ _ _ (gS eP (kF (aA 10) (eh fE aH) kZ))) ac)))))) (@aK _ _ _ (@bW _ _ _ _ (cU Ht IK IL g9 (aA 5) (aA 10>=>aD)) 0x0)))))))) @hW4)); ?_);let#[c,pl,bl,fns,fi,bs,rfl,hpl,l3,hfn,f3,hB,hbs,q]:=h;show#[_,(aJ (pS 4 fQ.nd (bI aD)) (aJ (pS 5 fQ.nd (bI aD)) @hW2)),?_];show#[cO,λcl hcl=>?_];have s1:=aB.new (o:=.lst []) hcl;show#[cO,λvl hvl=>?_];have nvc:cl≠vl:=λz=>by rw[<- z,aI] at hvl; cases hvl
   have hvH:=s1.free hvl;have s2:=s1\(aB.new (o:=.lst []) hvl);have e1:upd (upd H cl (.lst [])) vl (.lst []) cl=⇑(.lst []):=by rw[aM nvc]; exact aI
   have e2:upd (upd H cl (.lst [])) vl (.lst []) vl=⇑(.lst []):=aI;generalize upd (upd H cl (.lst [])) vl (.lst [])=H1 at s2 e1 e2 ⊢;have b3:=Bg.emod_bd' c 3 #[];have hE:∀{G:Hp},aB H G->aB H (ers cl (ers vl G)):=λs=>cy (cy s hvH) hcl;show#[83,(show(0:Int)<3 by decide),77,∅,∅,(let Jv1:Nat->St->Hp->Prop:=λi σ H2=>aB H H2/\∃n6:Int,∃v7 v8 v9 v10 v11 v12 xs us ch vs,σ=[⇑(.int c),⇑↥pl,⇑(.int (fi:Nat)),⇑↥bl,⇑↥cl,⇑↥vl,⇑(.int n6),v7,v8,v9,v10,v11,v12]/\H2 cl=⇑(.lst xs)/\H2 vl=⇑(.lst us)/\Rk2.Ps (dI K (ers cl (ers vl H2))) xs ch/\Rk2.Ps (gi H (ers cl (ers vl H2))) us vs/\ch.length=i/\MkP fns ch vs/\0<=n6/\n6<=100 * i/\(0<i->∀F,fns[fi]?=⇑F->∃r,ch[0]?=⇑(F.name,r)); fH (lo:=0) (n:=(1+c%3).toNat) Jv1 #[s2,(0),64,[],[],[],[],rfl,e1,e2,trivial,trivial,rfl,#[rfl,λk p q e=>by simp at e],#[],#[],λz=>absurd z #[]] ?_ ?_)]
   . rintro i σ H2 hi ⟨s2,n6,v7,v8,v9,v10,v11,v12,xs,us,ch,vs,rfl,e1,e2,p1,p2,lch,mp,n0,n1,fst⟩;rw[Io];have lx:=Rk2.Ps.len p1;have lus:=Rk2.Ps.len p2;have lvs:=mp.len;obtain⟨a,hat,a3,ha0⟩:∃a:Nat,aq [V.int (fi:Nat),V.int (c / 3%3),V.int (c / 9%3)] (i:Int)=⇑(.int a)/\a<3/\(i=0->a=fi):=by
       let#[r1,h1,h1']:=md (c / 3) 3 #[];let#[r2,h2,h2']:=md (c / 9) 3 #[];rw[h1,h2];obtain rfl|rfl|rfl:i=0\/i=1\/i=2:=by lia
       . show#[fi,rfl,f3,λ_=>rfl]
       . show#[r1,rfl,∅,λz=>by cases z]
       . show#[r2,rfl,∅,λz=>by cases z]
     obtain⟨F,hF⟩:∃F,fns[a]?=⇑F:=#[_,HU ∅]
     have hFp:aq (fns.map λf=>V.ref f.fa) (a:Int)=⇑↥F.fa:=bv (by rw[Hk,hF]; rfl);have fm:=IA hF;let#[fA,fO]:=hfn F fm;have fl:=fA.len;have fr:=fO.r1;have fln:=fO.ln;show#[339,#[#[],#[]],19,(show(0:Int)<3 by decide),83,#[#[],#[]],19,(show(0:Int)<3 by decide),dU,λL3 hL3=>#[5,L3,35,aE.of aI,hat,?_]];generalize e:upd H2 L3 _=H3;have s3:=(nw e hL3).1;have k3:=s2\s3;have e1:=s3 _ _ e1;have e2:=s3 _ _ e2;have p1:=Rk2.Ps.imp (λ_ _ z=>z*>s3.ers.ers) p1;have p2:=Rk2.Ps.imp (λ_ _ z=>z*>s3.ers.ers) p2;show#[21,pl,35,k3.seq hpl,hFp,F.fa,35,k3<*fA.fn,rfl,?_];have lr:((F.rs.map λw=>V.ref w.r).length:Int)=(F.rs.length:Int):=by rw[HS]
     obtain⟨r,hr,-⟩:=md (c * (39373+2 * (i:Int))%2147483587 / 7) ((F.rs.map λw=>V.ref w.r).length:Nat) (by rw[lr]; lia);show#[5,.inl #[6,aE.of e1],21,pl,35,k3.seq hpl,hFp,F.fa,35,k3<*fA.fn,851,.inr #[∅,∅],307,.inr #[∅,∅],19,(show(0:Int)<2147483587 by decide),19,#[#[],#[]],5,F.ra,5,.inr (k3<*fA.rw_),19,(by rw[lr]; lia),bL,λb hb=>?_];rw[hr];have s4:=aB.new (o:=.tup [V.str F.name,V.int (r:Int)]) hb;have nbc:b≠cl:=λz=>by rw[z,e1] at hb; cases hb
     have nbv:b≠vl:=λz=>by rw[z,e2] at hb; cases hb
     have q4:aG K (ers cl (ers vl (upd H3 b (.tup [V.str F.name,V.int (r:Int)])))) b [V.str F.name,V.int (r:Int)]:=aG.of (by rw[ak nbc,ak nbv]; exact aI);generalize upd H3 b (.tup [V.str F.name,V.int (r:Int)])=H4 at s4 q4 ⊢;show#[cl,xs,11,s4 _ _ e1,Rk2.lt_line' ∅,?_];have k4:aB H (upd H4 cl (.lst (xs++[V.ref b]))):=(k3\s4).upd hcl;have e1':=aI (H:=H4) (a:=cl) (o:=.lst (xs++[V.ref b]));have e2':upd H4 cl (.lst (xs++[V.ref b])) vl=⇑(.lst us):=by rw[aM nvc.symm]; exact s4 _ _ e2
     have p1':Rk2.Ps (dI K (ers cl (ers vl (upd H4 cl (.lst (xs++[V.ref b])))))) (xs++[V.ref b]) (ch++[(F.name,r)]):=by
       have x:(ers cl (ers vl (upd H4 cl (.lst (xs++[V.ref b])))))=(ers cl (ers vl H4)):=by rw[iu,fj,iu]
       rw[x];exact Rk2.Ps.app (Rk2.Ps.imp (λ_ _ z=>z*>s4.ers.ers) p1) #[#[b,rfl,q4],trivial]
     have p2':Rk2.Ps (gi H (ers cl (ers vl (upd H4 cl (.lst (xs++[V.ref b])))))) us vs:=by
       have x:(ers cl (ers vl (upd H4 cl (.lst (xs++[V.ref b])))))=(ers cl (ers vl H4)):=by rw[iu,fj,iu]
       rw[x];exact Rk2.Ps.imp (λ_ _ z=>z*>s4.ers.ers) p2
     generalize upd H4 cl (.lst (xs++[V.ref b]))=H5 at k4 e1' e2' p1' p2' ⊢;clear p1 p2 e1 e2 q4 s4 s3 s2 k3 hL3;show#[cO,λwl hwl=>?_];have s6:=aB.new (o:=.lst []) hwl;have hwH:=k4.free hwl;have lp:((F.ps.map V.str).length:Int)=(F.ps.length:Int):=by rw[HS]
     have k6:=k4\s6;have hn:(((F.ps.map V.str).length:Int)+((F.rs.map λw=>V.ref w.r).length:Int) - 2).toNat=(F2.nms F).length:=by rw[lp,lr]; lia
     have n20:=fO.n1;show#[21,pl,35,k6.seq hpl,hFp,F.fa,35,k6<*fA.fn,rfl,F.pa,5,.inr (k6<*fA.pr),5,F.ra,5,.inr (k6<*fA.rw_),1229,by rw[lp,lr]; lia,by rw[lp,lr]; lia,(let Jv2:Nat->St->Hp->Prop:=λj σ H6=>aB H5 H6/\∃n7:Int,∃v11 v12 ys pls,σ=[⇑(.int c),⇑↥pl,⇑(.int (fi:Nat)),⇑↥bl,⇑↥cl,⇑↥vl,⇑(.int n7),⇑(.int (i:Int)),⇑(.int (a:Int)),⇑↥F.ra,⇑↥wl,v11,v12]/\H6 wl=⇑(.lst ys)/\Rk2.Ps (bp (ers wl H6)) ys pls/\pls.length=j/\(∀u,⇑u∈pls->da u)/\0<=n7/\n7<=n6+j; fH (lo:=0) (n:=(((F.ps.map V.str).length:Int)+((F.rs.map λw=>V.ref w.r).length:Int) - 2).toNat) Jv2 #[s6,n6,4,[],[],rfl,aI,trivial,rfl,(λu hu=>by cases hu),n0,∅] ?_ ?_)]
     . rintro j σ H6 hj ⟨s6,n7,v11,v12,ys,pls,rfl,e6,p6,l6,ok6,n70,n71⟩;have ly:=Rk2.Ps.len p6;have k6:=k4\s6;show#[83,?_];show#[339,.inr #[∅,∅],307,.inr #[∅,∅],19,(show(0:Int)<2147483647 by decide),19,#[#[],#[]],?_];generalize c * (48271+2 * (n7+1))%2147483647 / 3=z;show#[5,.inl #[6,aE.of e6],83,#[#[],#[]],10,bl,bs,rfl,k6.seq hB,hbs,λtr v H7 s7 r7 t7=>?_];show#[wl,ys,11,s7 _ _ e6,Rk2.lt_line' ∅,?_];have s07:=(s6\s7).upd (o:=.lst (ys++[v])) hwl;have p7:Rk2.Ps (bp (ers wl H7)) ys pls:=Rk2.Ps.imp (λ_ _ z=>bp.mono s7.ers z) p6;show#[83,(show(0:Int)<4 by decide),13,?_];by_cases z4:z%4=0
       . refine ah (Hf (Hr V.int z4)) #[21,wl,_,-1,ys.length,7,aI,by rw[HZ]; exact tN _,?_];rw[et];show#[(s6\s7).upd hwl,16,pls++[none],rfl,aI,?_,by rw[HZ,l6]; rfl,(λu hu=>?_),∅,∅]
         . rw[fj,List.set_append_right _ _ (HY _),Nat.sub_self];exact Rk2.Ps.app p7 #[rfl,trivial]
         . rcases IH.mp hu with hu|hu
           . exact ok6 u hu
           . cases IC.mp hu
       . refine aa (λy=>z4 (V.int.inj (bG y))) #[s07,16,pls++[⇑tr],rfl,aI,?_,by rw[HZ,l6]; rfl,(λu hu=>?_),∅,∅]
         . rw[fj];exact Rk2.Ps.app p7 #[pI (s7 _ _ e6) r7,trivial]
         . rcases IH.mp hu with hu|hu
           . exact ok6 u hu
           . cases IC.mp hu;exact uL t7
     . rintro σ H6 ⟨s6,n7,v11,v12,ys,pls,rfl,e6,p6,l6,ok6,n70,n71⟩;rw[hn] at l6 n71;have k6:=k4\s6;have nwc:wl≠cl:=λz=>by rw[z,e1'] at hwl; cases hwl
       have nwv:wl≠vl:=λz=>by rw[z,e2'] at hwl; cases hwl
       show#[5,.inl #[6,aE.of (s6 _ _ e2')],5,vl,us,11,s6 _ _ e2',Rk2.lt_line' ∅,k6.upd hvH,n7,256,ch++[(F.name,r)],vs++[pls],rfl,by rw[aM nvc]; exact s6 _ _ e1',aI,?_,?_,by rw[HZ,lch]; rfl,mp.snoc fm l6 ok6,n70,∅,λ_ F2 hF2=>?_]
       . rw[fj];exact Rk2.Ps.imp (λ_ _ z=>z*>s6.ers.ers) p1'
       . rw[fj];exact Rk2.Ps.app (Rk2.Ps.imp (λ_ _ z=>z*>s6.ers.ers) p2') #[#[wl,ys,rfl,hwH,by rw[ak nwc,ak nwv]; exact e6,Rk2.Ps.imp (λ_ _ z=>bp.er2 (s6 _ _ e1') (s6 _ _ e2') nvc (bp.mono bO z)) p6],trivial]
       . cases i with
         | zero =>
           obtain rfl:ch=[]:=JJ.mp lch;rw[ha0 rfl,hF2] at hF;cases hF;show#[r,rfl]
         | succ i =>
           let#[r0,h0]:=fst (Nat.succ_pos _) F2 hF2;show#[r0,by rw[IV ∅]; exact h0]
   . rintro σ H2 ⟨s2,n6,v7,v8,v9,v10,v11,v12,xs,us,ch,vs,rfl,e1,e2,p1,p2,lch,mp,n0,n1,fst⟩;show#[5,cl,xs,rfl,.inl #[aE.of e1,λct hct=>?_]];have s3:=aB.new (o:=.tup xs) hct;show#[5,bL,λb hb=>?_];have s4:=aB.new (o:=.tup [V.ref ct,V.ref vl]) hb;have s34:=s3\s4;have sEr:=((bO (l:=cl))\(bO (l:=vl) (H:=H2))).trans s34;exact q #[ch,vs] _ _ (s2\s34) #[b,ct,vl,us,rfl,aG.of aI,#[xs,s4<*(aG.of aI),Rk2.Ps.imp (λ_ _ z=>z*>sEr) p1],hvH,s34 _ _ e2,Rk2.Ps.imp (λ_ _ z=>z*>sEr) p2] #[mp,by show 1<=ch.length; lia,by show ch.length<=3; lia] (fst ∅)
def wc:FnScope ["_law_walker","_law_way","_law_level","_law_name","e"] ["_law_walker","_law_way","_law_level","_law_name"] (aS mZ):=by walk_at "s"
def Ds (T:Txt K mg t):FnOk P w K mg base CX0 14 t.xl t.yz ["_law_walker","_law_way","_law_level","_law_name"] (Fs K t):=by
 have Qy:=tH (P:=P) (w:=w) (base:=base) T;have Qm:=qO (P:=P) (w:=w) (base:=base) T;have Qn:=rm (P:=P) (w:=w) (base:=base) T;have Qz:=uy (P:=P) (w:=w) (base:=base) T;refine T.rW.F.ok wc (λvs H Q E h=>?_) (λcdv A outer s H vs Q E hr h=>?_)
 . let#[_,_,_,_,_,_,_,_,_,_,_,rfl,_]:=h;rfl
 . let#[w,wt,fs,wl,fns,cs,ms,Hb,y,z,n,rfl,W,q]:=h;show#[_,(aJ (wY (j:=4) wc.nd rfl rfl T.x_gE rfl rfl (qw (ao bB (aA 1) aH (ag _)) (kU (li (aA 0) T.aZ.cl T.lP.m Qy (hr*>#[]) T.lP.b (aA 2>=>aA 3>=>aD))) (qw (ao bB (aA 1) aH (ag _)) (kU (li (aA 0) T.aZ.cl T.iZ.m Qm (hr*>#[]) T.iZ.b (aA 2>=>aA 3>=>aD))) (qw (ao bB (aA 1) aH (ag _)) (kU (li (aA 0) T.aZ.cl T.iW.m Qn (hr*>#[]) T.iW.b (aA 2>=>aD))) (kU (li (aA 0) T.aZ.cl T.lK.m Qz (hr*>#[]) T.lK.b (aA 2>=>aH>=>aH>=>aD)))))) (λ_=>(~~~(g7 (az (show aw _ (.builtin "isinstance") (j8 K mg) from lE) 0x0 T.b_isinstance dh (aA 4>=>iF T.x_nN.g>=>aD)) (g7 (az (show aw _ (.builtin "isinstance") (j8 K mg) from lE) 0x0 T.b_isinstance dh (aA 4>=>(gB (v:=V.ty "ValueError") rfl T.b_ValueError C8 rfl)>=>aD)) (i5 (qH (az (show aw _ (.builtin "isinstance") (j8 K mg) from lE) 0x0 T.b_isinstance dh (aA 4>=>iF T.cm.g>=>aD))))))))) (~~~bZ)),?_];have W0:=W;let#[oc,sent,cn,h,D,l1,l2]:=W0;by_cases y0:y=0
   . show#[45,ah (by rw[y0]; rfl) #[5,w.a,9,h.o,53,w,wt,fs,wl,fns,cs,ms,Hb,z,n,rfl,W,?_]];rcases q with⟨hz,q⟩|⟨i,f,m,p,pl,F,rfl,y2,LF,q⟩
     . refine .inr #[hz,λH1 s1=>?_];show#[t.x_nN,5,T.x_nN,T.e_nN,λea hea=>?_];generalize e:upd H1 ea _=H2;have ⟨s2,hX⟩:=nw e hea;show#[5,ea,129,hX,(λdx z=>by cases z),T.x_nN,rfl,T.k_NoName_nN,5,iP #[5,ea,129,hX,(λdx z=>by cases z),T.x_nN,rfl,T.v_nN,5,iP #[5,ea,129,hX,(λdx z=>by cases z),T.x_nN,rfl,T.k_NoName_Ended,5,q H2 (s1\s2)]]]
     . refine .inl #[i,f,m,p,pl,F,rfl,LF,λhin o ho H1 s1=>?_,λhno H1 s1=>?_]
       . exact vq (Hr V.bl (IU (λz=>z hin))).symm (q H1 s1)
       . show#[t.x_nN,5,T.x_nN,T.e_nN,λea hea=>?_];generalize e:upd H1 ea _=H2;have ⟨s2,hX⟩:=nw e hea;show#[5,ea,129,hX,(λdx z=>by cases z),T.x_nN,rfl,T.k_NoName_nN,5,iP #[5,ea,129,hX,(λdx z=>by cases z),T.x_nN,rfl,T.v_nN,5,iP #[5,ea,129,hX,(λdx z=>by cases z),T.x_nN,rfl,T.k_NoName_Ended,5,vq (Hr V.bl (Hf hno)).symm (q H2 (s1\s2))]]]
   by_cases y1:y=1
   . show#[45,aa (λz=>y0 (by have:=V.int.inj (bG z); lia)) #[45,ah (by rw[y1]; rfl) #[5,w.a,9,h.o,53,w,wt,fs,wl,fns,cs,ms,Hb,z,n,rfl,W,?_]]];rcases q with⟨hz,q⟩|⟨i,f,m,p,pl,F,rfl,y2,LF,q⟩
     . refine .inr #[hz,λH1 s1=>?_];show#[t.x_nN,5,T.x_nN,T.e_nN,λea hea=>?_];generalize e:upd H1 ea _=H2;have ⟨s2,hX⟩:=nw e hea;show#[5,ea,129,hX,(λdx z=>by cases z),T.x_nN,rfl,T.k_NoName_nN,5,iP #[5,ea,129,hX,(λdx z=>by cases z),T.x_nN,rfl,T.v_nN,5,iP #[5,ea,129,hX,(λdx z=>by cases z),T.x_nN,rfl,T.k_NoName_Ended,5,q H2 (s1\s2)]]]
     . refine .inl #[i,f,m,p,pl,F,rfl,LF,λhin o ho v1 H1 s1 _=>?_,λhno H1 s1=>?_]
       . exact vq (Hr V.bl (IU (λz=>z hin))).symm (q H1 s1)
       . show#[t.x_nN,5,T.x_nN,T.e_nN,λea hea=>?_];generalize e:upd H1 ea _=H2;have ⟨s2,hX⟩:=nw e hea;show#[5,ea,129,hX,(λdx z=>by cases z),T.x_nN,rfl,T.k_NoName_nN,5,iP #[5,ea,129,hX,(λdx z=>by cases z),T.x_nN,rfl,T.v_nN,5,iP #[5,ea,129,hX,(λdx z=>by cases z),T.x_nN,rfl,T.k_NoName_Ended,5,vq (Hr V.bl (Hf hno)).symm (q H2 (s1\s2))]]]
   by_cases y2:y=2
   . show#[45,aa (λz=>y0 (by have:=V.int.inj (bG z); lia)) #[45,aa (λz=>y1 (by have:=V.int.inj (bG z); lia)) #[45,ah (by rw[y2]; rfl) #[5,w.a,9,h.o,13,w,wt,fs,wl,fns,cs,ms,Hb,z,rfl,W,?_]]]];rcases q with⟨hz,q⟩|⟨i,f,m,p,pl,F,rfl,y2,LF,q⟩
     . refine .inr #[hz,λH1 s1=>?_];show#[t.x_nN,5,T.x_nN,T.e_nN,λea hea=>?_];generalize e:upd H1 ea _=H2;have ⟨s2,hX⟩:=nw e hea;show#[5,ea,129,hX,(λdx z=>by cases z),T.x_nN,rfl,T.k_NoName_nN,5,iP #[5,ea,129,hX,(λdx z=>by cases z),T.x_nN,rfl,T.v_nN,5,iP #[5,ea,129,hX,(λdx z=>by cases z),T.x_nN,rfl,T.k_NoName_Ended,5,q H2 (s1\s2)]]]
     . lia
   show#[45,aa (λz=>y0 (by have:=V.int.inj (bG z); lia)) #[45,aa (λz=>y1 (by have:=V.int.inj (bG z); lia)) #[45,aa (λz=>y2 (by have:=V.int.inj (bG z); lia)) #[5,w.a,9,h.o,13,w,wt,fs,wl,fns,cs,ms,Hb,z,(3),(5),rfl,W,?_]]]];rcases q with⟨hz,q⟩|⟨i,f,m,p,pl,F,rfl,y2,LF,q⟩
   . refine .inr #[hz,λH1 s1=>?_];show#[t.x_nN,5,T.x_nN,T.e_nN,λea hea=>?_];generalize e:upd H1 ea _=H2;have ⟨s2,hX⟩:=nw e hea;show#[5,ea,129,hX,(λdx z=>by cases z),T.x_nN,rfl,T.k_NoName_nN,5,iP #[5,ea,129,hX,(λdx z=>by cases z),T.x_nN,rfl,T.v_nN,5,iP #[5,ea,129,hX,(λdx z=>by cases z),T.x_nN,rfl,T.k_NoName_Ended,5,q H2 (s1\s2)]]]
   . lia
def rB:FnScope ["_law_found","_law_due","_law_one","_law_other"] ["_law_found","_law_due"] (aS j6):=by walk_at "s"
def GT (T:Txt K mg t):FnOk P w K mg base CX0 13 t.xh t.yu ["_law_found","_law_due"] (zl K):=by
 have Qb:=mB (P:=P) (w:=w) (base:=base) T;have Qf:FnOk P w K mg base CX0 11 t.lQ t.lT ["_law_found","_law_due"] (mO K 10):=r9 T 10;refine T.rT.F.ok rB (λvs H Q E h=>?_) (λcdv A outer s H vs Q E hr h=>?_)
 . let#[_,_,_,_,_,rfl,_]:=h;rfl
 . skip
   refine lx ?_;intro XX;refine(let W2:TS:=_; have hW2:aO XX ((aP j6).drop 2) W2:=(~~~bZ); ?_);refine(let W1:TS:=_; have hW1:aO XX ((aP j6).drop 1) W1:=(aJ (bu PassesOwn.never rfl (pJ false false rfl T.b_zip (aA 0>=>aA 1>=>aD)) (cx rfl (bK (aY (i:=2) rB.nd rfl 0x4) (bK (aY (i:=3) rB.nd rfl 0x4) ck))) (aJ (af (@PW.pt _ _ _ (dP (cX (cM (az nV 0x0 T.b_isinstance dh (aA 2>=>(gB (v:=V.ty "tuple") rfl T.b_tuple gW rfl)>=>aD)))) (dP (ao jS (az 0x1 0x0 T.b_len bV (aA 2>=>aD)) aH (ag _)) (dP (cX (cM (cD T.lY Qb hr ((iT K (aA 2))>=>aD)))) (eZ (ao (wm hr.units) (eO uZ (aA 2) fR (dz aH)) (eO uZ (aA 3) fR (dz aH)) (ag _))))))) (~~~bZ) ac) (@aK _ _ _ (af (@PW.pt _ _ _ (dP (@PW.pt _ _ _ (nI (eQ (ip (iT K (aA 3)))) (ll (eQ (i0 (iT K (aA 2))))))) (eZ (@PW.pt _ _ _ (nI (eQ (i0 (iT K (aA 3)))) (ll (cX (cM (cD T.jY Qf hr ((iT K (aA 2))>=>(iT K (aA 3))>=>aD)))))))))) (~~~bZ) ac)))) @hW2); ?_);let#[l1,l2,us,ws,xs,rfl,h1,h2,p1,p2,ok,hx,q]:=h;show#[_,(aJ (af (@PW.pt _ _ _ (dP (cX (cM (az nV 0x0 T.b_isinstance dh (aA 0>=>(gB (v:=V.ty "list") rfl T.b_list j7 rfl)>=>aD)))) (eZ (ao jS (az 0x1 0x0 T.b_len bV (aA 0>=>aD)) (az 0x1 0x0 T.b_len bV (aA 1>=>aD)) (ag _))))) (~~~bZ) ac) @hW1),?_];have lu:=Rk2.Ps.len p1;have lw:=Rk2.Ps.len p2;show#[10,"list",_,true,rfl,.lst h1,13,iN #[5,l1,5,.inl h1,5,l2,5,.inl h2,13,aa (by rw[lu,lw]; simp) ?_]];show#[21,l1,l2,rfl,#[_,h1],#[_,h2],(let Jv1:Nat->St->Hp->Prop:=λi σ H2=>aB H H2/\∃v2 v3,σ=[⇑↥l1,⇑↥l2,v2,v3]; qY (b1:=false) (b2:=false) (xs:=us) (ys:=ws) Jv1 #[aB.refl _,9] ?_ ?_ ?_)]
   . rintro i σ H2 hi ⟨s2,_⟩;show#[s2.seq h1,s2.seq h2]
   . rintro i y z σ H2 b hy hz ⟨s2,v2,v3,rfl⟩ hb;have s3:=s2\(aB.new (o:=.tup [y,z]) hb);have e3:=aG.of (K:=K) (aI (H:=H2) (a:=b) (o:=.tup [y,z]));generalize upd H2 b (.tup [y,z])=H3 at s3 e3 ⊢;have hi:i<xs.length:=by have:=(HV.mp hy).1; lia
     let#[v,hv,q1,x1,rfl,a1,b1]:=c8 p1 (HU hi);rw[hy] at hv;cases hv;let#[v,hv,q2,x2,rfl,a2,b2]:=c8 p2 (HU hi);rw[hz] at hv;cases hv;have ox:=ok _ (IT hi);generalize xs[i]=x at a1 b1 a2 b2 ox;let#[xn,xw,xo]:=x;have A1:=s3<*a1;show#[b,5,e3,403,?_];show#[10,"tuple",_,true,rfl,.tup A1,13,iN #[5,q1,5,.inr A1,13,aa (show ¬ (!decide (V.int ((3:Nat):Int)=V.int 3))=true by decide) #[5,q1,35,A1,53,iN #[21,rq A1 λc1 H4 s4 e4=>#[21,rq (s4<*(s3<*a2)) λc2 H5 s5 e5=>?_]]]]];have e4:aG K H5 c1 [.int (xn:Int),.str xw]:=s5<*e4;have e5:aG K H5 c2 [.int (xn:Int),.str xw]:=e5;have s35:=s3\(s4\s5);let#[dt,lt,d1,d2]:=Bg.Twin.tup (n:=0) e4 e5 (.of (.cons .int (.cons (.str ox.1) .nil)));refine uq (n:=0+1) #[] lt d1 d2 #[5,iN ?_];clear d1 d2 lt;have A1:=s35<*a1;have A2:=s35<*a2;cases xo with
     | none =>
       obtain rfl:x1=.non:=b1;obtain rfl:x2=.non:=b2;show#[5,q2,35,A2,13,iP #[5,q1,35,A1,13,iN #[5,q2,35,A2,13,iN #[s35,9]]]]
     | some u =>
       have b1:Rk2.RAt H u x1:=b1;have b2:Rk2.RAt H u x2:=b2;have ou:=ox.2 u rfl;show#[5,q2,35,A2,13,aa (λz=>mY b2 (Ij z)) #[5,q2,35,A2,13,ah (by simpa using mY b2) #[5,q1,35,A1,13,q2,35,A2,rfl,u,x1,x2,rfl,ou.1,b1*>s35,b2*>s35,5,iN #[s35,9]]]]
   . rintro σ H2 ⟨s2,v2,v3,rfl⟩;exact q H2 s2
def rA:FnScope ["_law_walker","_law_level","_law_name","_law_place","_law_boxes","_law_there","_law_found"] ["_law_walker","_law_level","_law_name","_law_place","_law_boxes"] (aS kE):=by walk_at "s"
def Aq (T:Txt K mg t):FnOk P w K mg base CX0 14 t.xi t.yw ["_law_walker","_law_level","_law_name","_law_place","_law_boxes"] (Gh K t):=by
 have Qf:FnOk P w K mg base CX0 11 t.lQ t.lT ["_law_found","_law_due"] (mO K 10):=r9 T 10;have Qb:=mB (P:=P) (w:=w) (base:=base) T;have Qe:FnOk P w K mg base CX0 11 t.lR t.lU ["_law_one","_law_boxes"] (nP K 10):=rC T 10;have Qm:=qO (P:=P) (w:=w) (base:=base) T;have Qy:=tH (P:=P) (w:=w) (base:=base) T;refine T.zN.F.ok rA (λvs H Q E h=>?_) (λcdv A outer s H vs Q E hr h=>?_)
 . let#[_,_,_,_,_,_,_,_,_,_,_,_,_,_,_,_,_,_,rfl,_]:=h;rfl
 . skip
   refine lx ?_;intro XX;refine(let W2:TS:=_; have hW2:aO XX ((aP kE).drop 2) W2:=(aJ (af (eQ (ip (aA 3))) (~~~(g7 (ua (ip (aA 5))) (i5 (ua (ip (aA 6)))))) ac) (~~~(g7 (cD T.jY Qf hr (aA 5>=>aA 3>=>aD)) (g7 (cD T.lY Qb hr (aA 6>=>aD)) (i5 (gQ bB (aA 6) (cD T.jZ Qe hr (aA 3>=>aA 4>=>aD)) (ag _))))))); ?_);let#[w,wt,fs,wl,fns,cs,ms,Hb,i,f,m,p,pl,F,n,o,v,d,rfl,W,LF,hin,ho,hv,hd,q]:=h;show#[_,(aJ (pS 5 rA.nd (bN (aA 0) T.aZ.cl T.iZ.m Qm (hr*>#[]) T.iZ.b .nil gL (aA 1>=>aA 2>=>aD))) (aJ (pS 6 rA.nd (bN (aA 0) T.aZ.cl T.lP.m Qy (hr*>#[]) T.lP.b .nil gL (aA 1>=>aA 2>=>aD))) @hW2)),?_];have W0:=W;let#[oc,sent,cn,h,D,l1,l2]:=W0;show#[5,w.a,9,h.o,53,w,wt,fs,wl,fns,cs,ms,Hb,i,n,rfl,W,.inl #[i,f,m,p,pl,F,rfl,LF,λ_ o2 ho2 v1 H1 s1 hv1=>?_,λhno=>absurd hin hno]];rw[ho] at ho2;cases ho2;have W1:=W.keep s1;have h1:=h.keep s1;show#[5,w.a,9,h1.o,53,w,wt,fs,wl,fns,cs,ms,Hb,i,n,rfl,W1,.inl #[i,f,m,p,pl,F,rfl,LF,λ_ o2 ho2 H2 s2=>?_,λhno=>absurd hin hno]];rw[ho] at ho2;cases ho2;have s02:=s1\s2;have h2:=h1.keep s2;cases o with
   | none =>
     obtain rfl:v=.non:=hv;obtain rfl:v1=.non:=hv1;show#[21,jq #[21,iP #[5,q H2 s02]]]
   | some u =>
     have hv:Rk2.RAt H u v:=hv;have hv1:Rk2.RAt Hb u v1:=hv1;have ok:=LF.ok u (IA ho);show#[21,aa (λz=>mY hv (Ij z)) ?_];show#[21,u,v1,v,rfl,ok.1,hv1*>h2.b,hv*>s02,5,iP #[85,iP #[85,u,v,d,f.kvs,rfl,ok.1,hv*>s02,s02 _ _ hd,LF.dv,ok.2,rfl,vq (Hr V.bl (Hf rfl)) (q H2 s02)]]]
def cZ:FnScope ["_law_walker","_law_own","_law_names_here","_law_high","_law_due","_law_mark_here","_law_boxes","_law_level","_law_mates_here","_law_k","_law_words","_law_there","_law_name","_law_place","_law_found","_law_word","_law_refused_here"] ["_law_walker","_law_own","_law_names_here","_law_high"] (aS fG):=by walk_at "s"
def wW (T:Txt K mg t):FnOk P w K mg base CX0 15 t.xp t.z7 ["_law_walker","_law_own","_law_names_here","_law_high"] (Gq K t):=by
 have QX:=BF (P:=P) (w:=w) (base:=base) T;have QY:=Aq (P:=P) (w:=w) (base:=base) T;have QB:=GT (P:=P) (w:=w) (base:=base) T;have QC:=Ds (P:=P) (w:=w) (base:=base) T;have QZ:=AX (P:=P) (w:=w) (base:=base) T;have Qn:=rm (P:=P) (w:=w) (base:=base) T;refine T.ie.F.ok cZ (λvs H Q E h=>?_) (λcdv A outer s H vs Q E hr h=>?_)
 . let#[_,_,_,_,_,_,_,_,_,_,_,_,_,_,_,rfl,_]:=h;rfl
 . skip
   refine lx ?_;intro XX;refine(let W7:TS:=_; have hW7:aO XX ((aP fG).drop 7) W7:=(~~~bZ); ?_);refine(let W6:TS:=_; have hW6:aO XX ((aP fG).drop 6) W6:=(aJ (bu PassesOwn.never rfl (cw rfl T.b_range (aA 7>=>aD)) (aY (i:=11) cZ.nd rfl (Or.inr rfl)) (@aK _ _ _ (bu PassesOwn.never rfl (d7 (bI ((iY K (eE (bY hr.units) (aA 2) ai 0x5) (eh fE aH))>=>(iY K (eE (bY hr.units) (aA 2) ai 0x5) (aV bH<$>(ay bc<$>aA 3<*>aA 11)<*>(az 0x1 0x0 T.b_len bV ((eE (bY hr.units) (aA 2) ai 0x5)>=>aD))))>=>aD))) (aY (i:=15) cZ.nd rfl (Or.inr rfl)) (aJ (oH (i:=16) cZ.nd rfl 0x4 (N':=["_law_way","_law_walker","_law_there","_law_word"]) (js:=[none,some 0,some 11,some 15]) (by kernel_rfl) rfl (cw rfl T.b_range (aH>=>aD)) dH (λ_ _ _ _=>(aY (i:=0) (show(["_law_way","_law_walker","_law_there","_law_word"]:List Str).Nodup by decide +kernel) rfl 0x4 (.inr rfl))) (λ_ _ _ _=>cr) (λ_ _ _ _=>(cD T.rW QC hr (aA 1>=>aA 0>=>aA 2>=>aA 3>=>aD))) 0x0) (@aK _ _ _ (af (@PW.pt _ _ _ (nI (ao su (aA 15) (eE (bY hr.units) (aA 2) (iT K (iY K (aA 4) (aA 11))) 0x5) (by with_unfolding_all rfl)) (ll (ao (wm hr.units) (aA 16) (bI (bZ>=>bZ>=>aD)) (ag _))))) (~~~bZ) ac)))))) @hW7); ?_);refine(let W5:TS:=_; have hW5:aO XX ((aP fG).drop 5) W5:=(aJ (bu PassesOwn.never rfl (d7 (bI (eh fE aH>=>(ay fq<$>eh fE aH<*>aA 3)>=>aA 7>=>(ay bc<$>aA 7<*>aA 3)>=>aD))) (aY (i:=11) cZ.nd rfl (Or.inr rfl)) (@aK _ _ _ (af (ao jj bZ (dN (N':=["_law_way","_law_walker","_law_there","_law_names_here"]) (js:=[none,some 0,some 11,some 2]) (by kernel_rfl) rfl (cw rfl T.b_range (aH>=>aD)) dH (λ_ _ _ _=>(aY (i:=0) (show(["_law_way","_law_walker","_law_there","_law_names_here"]:List Str).Nodup by decide +kernel) rfl 0x4 (.inr rfl))) (λ_ _ _ _=>cr) (λ_ _ _ _=>(cD T.rW QC hr (aA 1>=>aA 0>=>aA 2>=>(iL K (eE (bY hr.units) (aA 3) ai 0x5))>=>aD)))) (by with_unfolding_all rfl)) (~~~bZ) ac))) @hW6); ?_);refine(let W4:TS:=_; have hW4:aO XX ((aP fG).drop 4) W4:=(aJ (bu PassesOwn.never rfl (d7 (aA 1)) (cx rfl (bK (aY (i:=5) cZ.nd rfl (Or.inr rfl)) (bK (aY (i:=6) cZ.nd rfl 0x4) ck))) (aJ (pS 8 cZ.nd (bI aD)) (aJ (bu PassesOwn.never rfl (cw rfl T.b_range ((az 0x1 0x0 T.b_len bV ((iT K (aA 5))>=>aD))>=>aD)) (aY (i:=9) cZ.nd rfl (Or.inr rfl)) (aJ (pS 10 cZ.nd (eE (bY hr.units) (aA 2) (iT K (iX K (iT K (aA 5)) (aA 9))) 0x5)) (@aK _ _ _ (@bW _ _ _ _ (cU Ht JF JG qk (aA 8) ((dN (N':=["_law_j","_law_level","_law_k","_law_words","_law_mark_here"]) (js:=[none,some 7,some 9,some 10,some 5]) (by kernel_rfl) rfl (cw rfl T.b_range ((az 0x1 0x0 T.b_len bV (aA 10>=>aD))>=>aD)) dH (λ_ _ _ _=>(aY (i:=0) (show(["_law_j","_law_level","_law_k","_law_words","_law_mark_here"]:List Str).Nodup by decide +kernel) rfl 0x4 (.inr rfl))) (λ_ _ _ _=>cr) (λ_ _ _ _=>(bD ((ay bc<$>aA 1<*>aA 2)>=>(iY K (aA 3) (aA 0))>=>(iY K (iY K (iT K (aA 4)) (aA 2)) (aA 0))>=>aD))))>=>aD)) 0x0)))) (aJ (bu PassesOwn.never rfl (d7 (aA 8)) (cx rfl (bK (aY (i:=11) cZ.nd rfl (Or.inr rfl)) (bK (aY (i:=12) cZ.nd rfl 0x4) (bK (aY (i:=13) cZ.nd rfl 0x4) ck)))) (@aK _ _ _ (af (cX (cM (cD T.zN QY hr (aA 0>=>aA 11>=>aA 12>=>aA 13>=>aA 6>=>aD)))) (~~~bZ) ac))) (aJ (bu PassesOwn.never rfl (cw rfl T.b_range ((az 0x1 0x0 T.b_len bV ((iT K (aA 5))>=>aD))>=>aD)) (aY (i:=9) cZ.nd rfl (Or.inr rfl)) (aJ (pS 14 cZ.nd (bN (aA 0) T.aZ.cl T.iW.m Qn (hr*>#[]) T.iW.b .nil gL ((ay bc<$>aA 7<*>aA 9)>=>aD))) (aJ (af (cX (cM (cD T.rT QB hr (aA 14>=>aA 8>=>aD)))) (~~~bZ) ac) (aJ (@bW _ _ _ _ (qt Ht PySem.F.slot_list_clear PySem.F.type_list_clear Dw (aA 14)) 0x0) (@aK _ _ _ (af (cX (cM (cD T.rT QB hr ((bN (aA 0) T.aZ.cl T.iW.m Qn (hr*>#[]) T.iW.b .nil gL ((ay bc<$>aA 7<*>aA 9)>=>aD))>=>aA 8>=>aD)))) (~~~bZ) ac)))))) (@aK _ _ _ (pS 7 cZ.nd (ay bc<$>aA 7<*>(az 0x1 0x0 T.b_len bV ((iT K (aA 5))>=>aD)))))))))) @hW5); ?_);refine(let W3:TS:=_; have hW3:aO XX ((aP fG).drop 3) W3:=(aJ (pS 7 cZ.nd aH) @hW4); ?_);refine(let W2:TS:=_; have hW2:aO XX ((aP fG).drop 2) W2:=(aJ (af (cX (cM (cD T.zK QX hr ((gw (aA 0) T.aZ.cl T.rK.m QZ (hr*>#[]) T.rK.b .nil bR)>=>aA 4>=>aD)))) (~~~bZ) ac) @hW3); ?_);refine(let W1:TS:=_; have hW1:aO XX ((aP fG).drop 1) W1:=(aJ (bu PassesOwn.never rfl (d7 (aA 1)) (cx rfl (bK (aY (i:=5) cZ.nd rfl (Or.inr rfl)) (bK (aY (i:=6) cZ.nd rfl 0x4) ck))) (@aK _ _ _ (@bW _ _ _ _ (cU Ht JF JG sR (aA 4) ((iT K (aA 5))>=>aD)) 0x0))) @hW2); ?_);let#[w,wt,wl,fns,cs,ms,Hb,L,nd,al,ol,kn,ws,us,hg,rfl,W,S,N,hol,hu,q]:=h;show#[_,(aJ (pS 4 cZ.nd (bI aD)) @hW1),?_];have W0:=W;let#[oc,sent,cn,h,D,l1,l2]:=W0;have lu:=Rk2.Ps.len hu;have hL2:=S.hl;show#[cO,λdu hdu=>?_];have s0:=aB.new (o:=.lst []) hdu;show#[5,ol,rfl,#[_,s0.seq hol],(let Jv1:Nat->St->Hp->Prop:=λi σ H2=>aB H H2/\∃v5 v6 xs,σ=[⇑↥w.a,⇑↥ol,⇑↥nd,⇑(.int (hg:Nat)),⇑↥du,v5,v6,none,none,none,none,none,none,none,none,none,none]/\H2 du=⇑(.lst xs)/\Rk2.Ps (dI K H) xs ((L.take i).flatMap (·.2.1.ch))/\xs.length<=3 * i; gP (xs:=us) Jv1 #[s0,4,[],rfl,aI,trivial,HY _] ?_ ?_ ?_)]
   . rintro i σ H2 hi ⟨s2,_⟩;exact s2.seq hol
   . rintro i x σ H2 hx ⟨s2,v5,v6,xs,rfl,e2,p2,n2⟩;have hi:i<L.length:=by have:=(HV.mp hx).1; lia
     have hLx:=HU hi;obtain⟨v,hv,qa,mv,rfl,a1,⟨qm,c,l,vv,rfl,m1,⟨cu,m2,m3⟩,m4,m5⟩,a3⟩:=c8 hu hLx;rw[hx] at hv;cases hv;have lc:=Rk2.Ps.len m3;have M3:=(S.at_ i _ hLx).ok.l3;show#[qa,5,s2<*a1,403,?_];show#[5,.inl #[6,aE.of e2],5,qm,35,s2<*m1,rfl,du,c,xs,cu,7,e2,s2<*m2,fJ ∅,s2.upd hdu,17,aI,?_,by rw[HZ]; lia];rw[IM,hLx,IZ];exact Rk2.Ps.app p2 ↑m3
   rintro σ H1 ⟨s1,v5,v6,dx,rfl,ed,pd,nd1⟩;rw[lu,IP] at pd;have W1:=W.keep s1;have h1:=h.keep s1;show#[5,w.a,9,h1.o,rfl,w,wt,_,wl,fns,cs,ms,Hb,L.map (·.2.1),rfl,W1,by rw[HS,HS],(λj f m hf hm=>?_),λl us2 H2 s2 n2 e2 p2=>?_]
   . rw[Hk] at hf hm;cases e:L[j]? with
     | none=>rw[e] at hf; cases hf
     | some x =>
       rw[e] at hf hm;cases hf;cases hm;show#[(S.at_ j x e).ma,Hu (S.at_ j x e).ok.l3 #[]]
   rw[List.flatMap_map] at p2;have s02:=s1\s2;show#[5,l,du,us2,dx,L.flatMap (·.2.1.ch),rfl,aE.of e2,aE.of (s2 _ _ ed),Rk2.Ps.imp (λ_ _ z=>z*>(h.b\s02)) p2,Rk2.Ps.imp (λ_ _ z=>z*>s02) pd,(λp hp=>?_),5,iN ?_]
   . let#[j,hj]:=JU.mp hp;obtain⟨i,x,k,hx,hk,-⟩:=p9 _ L j p hj;have M:=(S.at_ i x hx).ok;have hkl:=(HV.mp hk).1;obtain⟨F,f1,f2,-⟩:=M.p.at_ k p _ hk (HU (by rw[M.p.len]; exact hkl));rw[f2];exact(S.fn F f1).so
   have ed:=s2 _ _ ed;have W2:=W.keep s02;have h2:=h.keep s02;have ldx:=Rk2.Ps.len pd;clear n2 e2 p2 W1 h1 s1 s2 s0 hdu;show#[5,ol,rfl,#[_,s02.seq hol],(let Jv2:Nat->St->Hp->Prop:=λi σ H3=>aB H2 H3/\∃v5 v6 v8 v9 v10 v11 v12 v13 v14,σ=[⇑↥w.a,⇑↥ol,⇑↥nd,⇑(.int (hg:Nat)),⇑↥du,v5,v6,⇑(.int (dE L i:Nat)),v8,v9,v10,v11,v12,v13,v14,none,none]; gP (xs:=us) Jv2 #[aB.refl _,1025] ?_ ?_ ?_)]
   . rintro i σ H3 hi ⟨s3,_⟩;exact(s02\s3).seq hol
   . rintro i x σ H3 hx ⟨s3,v5,v6,v8,v9,v10,v11,v12,v13,v14,rfl⟩;have hi:i<L.length:=by have:=(HV.mp hx).1; lia
     have hLx:=HU hi;obtain⟨v,hv,qa,mv,rfl,a1,⟨qm,c,l,vv,rfl,m1,⟨cu,m2,m3⟩,m4,m5⟩,a3⟩:=c8 hu hLx;rw[hx] at hv;cases hv;have M:=S.at_ i _ hLx;have hbn:=CG hLx;let#[nm,lnm,hk]:=zT S hLx;generalize L[i]=X at *;let#[f,m,d]:=X;have lc:cu.length=m.ch.length:=Rk2.Ps.len m3;have lvv:vv.length=m.vs.length:=Rk2.Ps.len m5;have M3:m.ch.length<=3:=M.ok.l3;have Mv:m.vs.length=m.ch.length:=M.ok.p.len;have fi:f.first=dE L i:=M.fi;have hk:∀(k:Nat) p1 pl1,m.ch[k]?=⇑p1->m.vs[k]?=⇑pl1->∃F,LvF ms (L.map (·.1)) wl fns (f.first+k) f m p1 pl1 F/\nm[k]?=⇑(F2.nms F):=hk;rw[<- fi];have k3:=s02\s3;show#[qa,5,k3<*a1,403,?_];show#[cO,λml hml=>?_];have s4:=aB.new (o:=.lst []) hml;have k4:=k3\s4;have hmH:=k3.free hml;show#[5,qm,35,k4<*m1,rfl,c,cu,rfl,.inr (k4<*m2),5,∅,∅,(let Jv3:Nat->St->Hp->Prop:=λk σ H4=>aB H3 H4/\∃v9 v10 xs,σ=[⇑↥w.a,⇑↥ol,⇑↥nd,⇑(.int (hg:Nat)),⇑↥du,⇑↥qm,⇑↥d,⇑(.int (f.first:Nat)),⇑↥ml,v9,v10,v11,v12,v13,v14,none,none]/\H4 ml=⇑(.lst xs)/\Rk2.Ps (eJ K (ers ml H4)) xs (dZ f.first m nm k)/\xs.length<=20 * k; fH (lo:=0) (n:=cu.length) Jv3 #[s4,4,[],rfl,aI,trivial,HY _] ?_ ?_)]
     . rintro k σ H4 hkc ⟨s4,v9,v10,xs,rfl,e4,p4,n4⟩;have k4:=k3\s4;rw[Io];obtain⟨p1,hp1⟩:∃p1,m.ch[k]?=⇑p1:=#[_,HU ∅]
       obtain⟨pl1,hpl1⟩:∃pl1,m.vs[k]?=⇑pl1:=#[_,HU ∅]
       let#[F,LF,hnm]:=hk k p1 pl1 hp1 hpl1;let#[vf,hvf,qf,rfl,hqf]:=c8 m3 hp1;let#[vp,hvp,qp,vps,rfl,hqp,hvs]:=c8 m5 hpl1;let#[nl,g1,g2]:=N.fn F LF.fn;have O:=S.fn F LF.fn;have O1:=O.n1;have pn:=LF.pn;have lvp:=Rk2.Ps.len hvs;have lnn:((F2.nms F).map V.str).length=(F2.nms F).length:=HS _;show#[21,qm,35,k4<*m1,13,c,35,k4<*m2,bv hvf,qf,35,k4<*hqf,25,Wk.dget_of (k4 _ _ N.d) (by rw[LF.nm]; exact g1),?_];have hR:dn f.first m nm k=((F2.nms F).zip pl1).map λx=>(f.first+k,x.1,x.2):=by unfold dn; rw[jW hnm,jW hpl1]
       show#[5,.inl #[6,aE.of e4],5,nl,5,.inl (k4.seq g2),5,∅,∅,λpL hpL=>kB (lo:=0) (n:=((F2.nms F).map V.str).length) (λj G v=>∃x,(dn f.first m nm k)[j]?=⇑x/\eJ K (ers ml G) x v) (λ_ _ _ _ z z225_=>by let#[x,z1,z2]:=z225_; show#[x,z1,z2*>z.ers]) ∅ hpL ?_ ?_]
       . rintro j G R_ hj sG ⟨acc,eacc⟩ kk;have kG:=k4\sG;rw[Io];rw[lnn] at hj;let#[vz,hvz,hPz]:=c8 hvs (HU (i:=j) ∅);show#[5429,nl,4,.str (F2.nms F)[j],7,kG.seq g2,bv (by rw[Hk,HU hj]; rfl),5,qm,35,kG<*m1,13,l,35,kG.seq m4,bv hvp,5,qp,4,vz,7,kG.seq hqp,bv hvz,dU,λb hb=>?_];have s6:=aB.new (o:=.tup [.int ((f.first:Int)+(k:Int)),.str (F2.nms F)[j],vz]) hb;have nbp:b≠pL:=λy=>by rw[y,eacc] at hb; cases hb
         have nbm:b≠ml:=λy=>by rw[y,sG _ _ e4] at hb; cases hb
         have hx:(dn f.first m nm k)[j]?=⇑(f.first+k,(F2.nms F)[j],pl1[j]'∅):=by rw[hR,Hk,HU (by rw[Jv]; lia),List.getElem_zip];rfl
         have hpH:=k4.free hpL;exact kk _ _ s6 #[_,hx,b,vz,rfl,aG.of (by rw[ak nbm,ak nbp]; exact aI),bp.mono (cy (cy (kG\s6) hpH) hmH) hPz]
       . rintro H5 vs s5 e5 l5 t5;have npm:pL≠ml:=λy=>by rw[y,e4] at hpL; cases hpL
         show#[ml,pL,xs,vs,7,s5 _ _ e4,e5,fJ ∅,(s4\s5).upd hml,17,aI,?_,by rw[HZ]; lia];rw[fj,AL];refine Rk2.Ps.app (Rk2.Ps.imp (λ_ _ z=>z*>s5.ers) p4) (jT (by rw[l5,lnn,hR,HS,Jv]; lia) λj v hv=>?_);let#[x,z1,z2]:=t5 j v hv;show#[x,z1,z2*>bO.ers]
     rintro σ H4 ⟨s4,v9,v10,xs,rfl,e4,p4,n4⟩;rw[lc] at p4 n4;have k4:=k3\s4;have p4:Rk2.Ps (eJ K H4) xs (dZ f.first m nm m.ch.length):=Rk2.Ps.imp (λ_ _ z=>z*>bO) p4;have lx:=Rk2.Ps.len p4;have okr:∀x∈dZ f.first m nm m.ch.length,PyData.strOk x.2.1=true/\∀u,x.2.2=⇑u->da u:=λx hx=>by let#[k,hk1,hk2]:=uB hx;let#[p,pl,F,LF,y1,y2]:=ut Mv hk hk1 hk2;show#[(S.fn F LF.fn).ns _ y1,λu hu=>LF.ok u (by rw[<- hu]; exact IA y2)]
     show#[5,ml,rfl,#[_,aE.of e4],(let Jv4:Nat->St->Hp->Prop:=λj σ H5=>aB H4 H5/\∃v9 v10 v11 v12 v13,σ=[⇑↥w.a,⇑↥ol,⇑↥nd,⇑(.int (hg:Nat)),⇑↥du,⇑↥qm,⇑↥d,⇑(.int (f.first:Nat)),⇑↥ml,v9,v10,v11,v12,v13,v14,none,none]; gP (xs:=xs) Jv4 #[aB.refl _,65] ?_ ?_ ?_)]
     . rintro j σ H5 hj ⟨s5,_⟩;exact aE.of (s5 _ _ e4)
     . rintro j x σ H5 hx ⟨s5,v9,v10,v11,v12,v13,rfl⟩;have hj:j<(dZ f.first m nm m.ch.length).length:=by have:=(HV.mp hx).1; lia
       let#[v,hv,qx,vx,rfl,b1,b2]:=c8 p4 (HU hj);rw[hx] at hv;cases hv;let#[k,hk1,hk2]:=uB (IT hj);let#[p,pl,F,LF,y1,y2]:=ut Mv hk hk1 hk2;have k5:=k4\s5;show#[qx,5,s5<*b1,3219,?_];show#[1365,w,wt,_,wl,fns,cs,ms,Hb,_,f,m,p,pl,F,4,vx,d,rfl,W.keep k5,LF,y1,y2,bp.mono s5 b2,k5 _ _ a3,λH6 s6=>#[5,iN #[s5\s6,65]]]
     rintro σ H5 ⟨s5,v9,v10,v11,v12,v13,rfl⟩;have k5:=k4\s5;have e5:=s5 _ _ e4;have p5:Rk2.Ps (eJ K H5) xs (dZ f.first m nm m.ch.length):=Rk2.Ps.imp (λ_ _ z=>z*>s5) p4;show#[5,qm,35,k5<*m1,rfl,c,cu,rfl,.inr (k5<*m2),5,∅,∅,(let Jv5:Nat->St->Hp->Prop:=λk σ H6=>aB H5 H6/\∃v9 v14,σ=[⇑↥w.a,⇑↥ol,⇑↥nd,⇑(.int (hg:Nat)),⇑↥du,⇑↥qm,⇑↥d,⇑(.int (f.first:Nat)),⇑↥ml,v9,v10,v11,v12,v13,v14,none,none]; fH (lo:=0) (n:=cu.length) Jv5 #[aB.refl _,9] ?_ ?_)]
     . rintro k σ H6 hkc ⟨s6,v9,v14,rfl⟩;rw[Io];have k6:=k5\s6;have h6:=h.keep k6;obtain⟨p1,hp1⟩:∃p1,m.ch[k]?=⇑p1:=#[_,HU ∅]
       obtain⟨pl1,hpl1⟩:∃pl1,m.vs[k]?=⇑pl1:=#[_,HU ∅]
       let#[F,LF,hnm]:=hk k p1 pl1 hp1 hpl1;show#[5,w.a,9,h6.o,851,w,wt,_,wl,fns,cs,ms,Hb,((f.first+k:Nat):Int),rfl,W.keep k6,.inl #[_,f,m,p1,pl1,nm,rfl,LF.lv,LF.c,Mv,lnm,hk,λfl us7 H7 s7 n7 e7 p7=>?_]];have s57:=s6\s7;show#[21,fl,ml,us7,xs,5,aE.of e7,aE.of (s57 _ _ e5),Rk2.Ps.imp (λ_ _ z=>z*>bO) p7,Rk2.Ps.imp (λ_ _ z=>z*>s57) p5,okr,∅,λH8 s8=>#[5,iN ?_]];show#[5,.inl #[6,aE.of (s8 _ _ e7)],fl,11,s8 _ _ e7,?_];have s9:aB H5 (upd H8 fl (.lst [])):=(s57\s8).upd (s6.free n7);generalize upd H8 fl (.lst [])=H9 at s9 ⊢;have k9:=k5\s9;have h9:=h.keep k9;show#[5,w.a,9,h9.o,851,w,wt,_,wl,fns,cs,ms,Hb,((f.first+k:Nat):Int),rfl,W.keep k9,.inl #[_,f,m,p1,pl1,nm,rfl,LF.lv,LF.c,Mv,lnm,hk,λfl us7 H7 s7 n7 e7 p7=>?_]];have s57:=s9\s7;show#[5,fl,ml,us7,xs,5,aE.of e7,aE.of (s57 _ _ e5),Rk2.Ps.imp (λ_ _ z=>z*>bO) p7,Rk2.Ps.imp (λ_ _ z=>z*>s57) p5,okr,∅,λH8 s8=>#[5,iN #[s57\s8,9]]]
     rintro σ H6 ⟨s6,v9,v14,rfl⟩;have k6:=k5\s6;have e:((f.first:Nat):Int)+((cu.length:Nat):Int)=((dE L (i+1):Nat):Int):=by have hbn:dE L (i+1)=dE L i+m.ch.length:=hbn; lia
     show#[21,qm,35,k6<*m1,rfl,c,cu,rfl,.inr (k6<*m2),19,?_];rw[e];show#[s3\(s4\(s5\s6)),1025]
   rintro σ H3 ⟨s3,v5,v6,v8,v9,v10,v11,v12,v13,v14,rfl⟩;rw[lu];have k3:=s02\s3;obtain⟨w0,ws',rfl⟩:∃a b,ws=a::b:=List.exists_cons_of_ne_nil N.ne;obtain⟨nl,hnl⟩:∃nl,dE L L.length=nl:=#[5]
   have hnl':nl=(L.flatMap (·.2.1.ch)).length:=by rw[<- hnl]; unfold dE; rw[IP]
   rw[hnl];have out:=S.out;rw[hnl] at out;show#[1396051,gO,λtl htl=>?_];have s4:=aB.new (o:=.lst [V.int (-1),V.int (-1 - (hg:Int)),V.int (nl:Int),V.int ((nl:Int)+(hg:Int))]) htl;have e4:=aE.of (K:=K) (aI (H:=H3) (a:=tl) (o:=.lst [V.int (-1),V.int (-1 - (hg:Int)),V.int (nl:Int),V.int ((nl:Int)+(hg:Int))]));generalize upd H3 tl (.lst [V.int (-1),V.int (-1 - (hg:Int)),V.int (nl:Int),V.int ((nl:Int)+(hg:Int))])=H4 at s4 e4 ⊢;have ed4:=s4 _ _ (s3 _ _ ed);have k4:=k3\s4;show#[tl,rfl,#[_,e4],(let Jv6:Nat->St->Hp->Prop:=λj σ H5=>aB H4 H5/\∃v11,σ=[⇑↥w.a,⇑↥ol,⇑↥nd,⇑(.int (hg:Nat)),⇑↥du,v5,v6,⇑(.int (nl:Nat)),v8,v9,v10,v11,v12,v13,v14,none,none]; gP (xs:=[V.int (-1),V.int (-1 - (hg:Int)),V.int (nl:Int),V.int ((nl:Int)+(hg:Int))]) Jv6 #[aB.refl _,5] ?_ ?_ ?_)]
   . rintro j σ H5 hj ⟨s5,_⟩;exact s5.seq e4
   . rintro j x σ H5 hx ⟨s5,v11,rfl⟩;obtain⟨z,rfl,hz⟩:∃z,x=V.int z/\fV ms (L.map (·.1)) wl z:=by
       have hm:=IA hx;simp only[Hh,ID,or_false] at hm;rcases hm with rfl|rfl|rfl|rfl
       . show#[5,.inl #[]]
       . show#[5,.inl ∅]
       . show#[5,out _ (HY _)]
       . show#[((nl+hg:Nat):Int),rfl,out _ (Jq _ _)]
     have k5:=k4\s5;show#[5,#[],#[],λpL hpL=>kB (lo:=0) (n:=4) (λj G v=>v=V.bl true) (λ_ _ _ _ _ z=>z) #[] hpL ?_ ?_]
     . rintro j G R_ hj sG ⟨acc,eacc⟩ kk;have kG:=k5\sG;rw[Io];show#[2729,Wk.dget_of (kG _ _ N.d) N.no,al,35,kG.seq N.al,(show aq _ ((0:Nat):Int)=_ from bv rfl),w,wt,_,wl,fns,cs,ms,Hb,j,z,w0,rfl,W.keep kG,.inl #[hz,λH' s'=>kk _ _ s' rfl]]
     . rintro H6 vs s6 e6 l6 t6;obtain rfl:=sw l6 t6;show#[pL,5,.inl (aE.of e6),29,iN #[s5\s6,5]]
   rintro σ H5 ⟨s5,v11,rfl⟩;have k5:=k4\s5;have ed5:=s5 _ _ ed4;show#[21,∅,∅,(let Jv7:Nat->St->Hp->Prop:=λj σ H6=>aB H5 H6/\∃v11 v15 v16,σ=[⇑↥w.a,⇑↥ol,⇑↥nd,⇑(.int (hg:Nat)),⇑↥du,v5,v6,⇑(.int (nl:Nat)),v8,v9,v10,v11,v12,v13,v14,v15,v16]; fH (lo:=0) (n:=nl) Jv7 #[aB.refl _,17] ?_ ?_)]
   . rintro j σ H6 hj ⟨s6,v11,v15,v16,rfl⟩;rw[Io];have k6:=k5\s6;obtain⟨p,hp⟩:∃p,(L.flatMap (·.2.1.ch))[j]?=⇑p:=#[_,HU ∅]
     let#[i,x,k,hx,hk,ej]:=p9 _ L j p hp;have M:=(S.at_ i x hx)
     obtain⟨pl1,hpl⟩:∃pl1,x.2.1.vs[k]?=⇑pl1:=#[_,HU (by rw[M.ok.p.len]; exact(HV.mp hk).1)]
     let#[F,LF]:=qU S hx hk hpl;have ej2:x.1.first+k=j:=by rw[M.fi]; exact ej.symm
     rw[ej2] at LF;let#[vf,hvf,qf,rfl,hqf]:=c8 pd hp;let#[nL,g1,g2]:=N.fn F LF.fn;have lws:((w0::ws').map V.str).length=ws'.length+1:=by rw[HS]; rfl
     obtain⟨wa,hwa⟩:∃wa,aq ((w0::ws').map V.str) (-1)=⇑(.str wa):=by show#[(w0::ws')[ws'.length]'(Iw _),?_];unfold aq;rw[lws,tN];show((w0::ws').map V.str)[ws'.length]?=_;rw[Hk,HU (Iw _)];rfl
     have hpos:(0:Int)<(((w0::ws').map V.str).length:Nat):=by rw[lws]; lia
     obtain⟨wb,hwb⟩:∃wb,aq ((w0::ws').map V.str) (((hg:Int)+(j:Int))%(((w0::ws').map V.str).length:Nat))=⇑(.str wb):=by let#[r,h1,h2]:=md ((hg:Int)+(j:Int)) _ hpos;rw[h1];rw[lws] at h2;show#[_,bv (by rw[Hk,HU (by show r<ws'.length+1; lia)]; rfl)]
     show#[41,Wk.dget_of (k6 _ _ N.d) N.no,5,al,35,k6.seq N.al,hwa,41,Wk.dget_of (k6 _ _ N.d) N.no,10857,Wk.dget_of (k6 _ _ N.d) N.no,al,5,.inl (k6.seq N.al),19,hpos,al,35,k6.seq N.al,hwb,bL,λtl htl=>?_];have s7:=aB.new (o:=.lst [V.str wa,V.str wb]) htl;have e7:=aE.of (K:=K) (aI (H:=H6) (a:=tl) (o:=.lst [V.str wa,V.str wb]));generalize upd H6 tl (.lst [V.str wa,V.str wb])=H7 at s7 e7 ⊢;show#[tl,rfl,#[_,e7],(let Jv8:Nat->St->Hp->Prop:=λn σ H8=>aB H7 H8/\∃v15 v16,σ=[⇑↥w.a,⇑↥ol,⇑↥nd,⇑(.int (hg:Nat)),⇑↥du,v5,v6,⇑(.int (nl:Nat)),v8,v9,v10,⇑(.int (j:Nat)),v12,v13,v14,v15,v16]; gP (xs:=[V.str wa,V.str wb]) Jv8 #[aB.refl _,9] ?_ ?_ ?_)]
     . rintro n σ H8 hn ⟨s8,_⟩;exact s8.seq e7
     . rintro n y σ H8 hy ⟨s8,v15,v16,rfl⟩;obtain⟨wd,rfl⟩:∃wd,y=V.str wd:=by
         have hm:=IA hy;simp only[Hh,ID,or_false] at hm;rcases hm with rfl|rfl
         . show#[5]
         . show#[5]
       have k8:=(k6\s7).trans s8;have ed8:=s8 _ _ (s7 _ _ (s6 _ _ ed5));show#[5,#[],#[],λpL hpL=>kB (lo:=0) (n:=2) (λj G v=>v=V.bl (decide (wd ∉ F2.nms F))) (λ_ _ _ _ _ z=>z) #[] hpL ?_ ?_]
       . rintro i G R_ hi sG ⟨acc,eacc⟩ kk;have kG:=k8\sG;rw[Io];show#[341,w,wt,_,wl,fns,cs,ms,Hb,i,_,wd,rfl,W.keep kG,.inr #[j,16,F,rfl,hi,LF,λH' s'=>kk _ _ s' rfl]]
       . rintro H9 vs s9 e9 l9 t9;obtain rfl:=sw l9 t9;have k9:=k8\s9;show#[341,du,35,aE.of (s9 _ _ ed8),bv hvf,qf,35,k9<*hqf,25,Wk.dget_of (k9 _ _ N.d) (by rw[LF.nm]; exact g1),nL,5,.inl (k9.seq g2),rfl,qc _,5,?_];by_cases hin:wd∈F2.nms F
         . exact aa (by rw[He rfl,vR hin]; decide) (eg #[s8\s9,9])
         . refine ah (by rw[He rfl,wZ hin]; rfl) #[5,bL,λt2 ht2=>?_];rw[Hf hin] at e9;have s10:=aB.new (o:=.lst [V.bl true,V.bl true]) ht2;let#[dt,lt,d1,d2]:=Bg.Twin.lst (K:=K) (n:=0) (aE.of (s10 _ _ e9)) (aE.of (aI (H:=H9) (a:=t2) (o:=.lst [V.bl true,V.bl true]))) (.of (.cons .bl (.cons .bl .nil)));exact uq (n:=0+1) #[] lt d1 d2 #[5,iN #[(s8\s9).trans s10,9]]
     . rintro σ H8 ⟨s8,v15,v16,rfl⟩;show#[s6\(s7\s8),17]
   rintro σ H6 ⟨s6,v11,v15,v16,rfl⟩;exact q H6 (k5\s6)
def mL:FnScope ["_law_walker","_law_own","_law_cell","_law_box","_law_number_here","_law_at","_law_level"] ["_law_walker","_law_own","_law_cell","_law_box","_law_number_here"] (aS gc):=by walk_at "s"
def sD (T:Txt K mg t):FnOk P w K mg base CX0 6 t.xY t.yp ["_law_walker","_law_own","_law_cell","_law_box","_law_number_here"] (GB K t):=by
 have Qz:=uy (P:=P) (w:=w) (base:=base) T;refine T.rS.F.ok mL (λvs H Q E h=>?_) (λcdv A outer s H vs Q E hr h=>?_)
 . let#[_,_,_,_,_,_,_,_,_,_,_,_,_,_,_,rfl,_]:=h;rfl
 . skip
   refine lx ?_;intro XX;refine(let W4:TS:=_; have hW4:aO XX ((aP gc).drop 4) W4:=(~~~(gQ Dm (bN (pv 0) T.aZ.cl T.lK.m Qz (hr*>#[]) T.lK.b .nil gL (pv 6>=>pv 3>=>pv 4>=>aD)) bZ (ag _))); ?_);refine(let W3:TS:=_; have hW3:aO XX ((aP gc).drop 3) W3:=(aJ (pS 6 mL.nd (bc<$>pv 6<*>(bH<$>(cK<$>pv 2<*>aH)<*>(az ix 0x0 T.b_len bV ((ae eY (ae eY (ae gk (pv 1) (pv 5) 0x5) aH 0x5) aH 0x5)>=>aD))))) @hW4); ?_);refine(let W2:TS:=_; have hW2:aO XX ((aP gc).drop 2) W2:=(aJ (dQ (bY hr.units) (ae eY (ae gk (pv 1) (pv 5) 0x5) aH 0x5) (pv 3) (pv 4) 0x0) @hW3); ?_);refine(let W1:TS:=_; have hW1:aO XX ((aP gc).drop 1) W1:=(aJ (pS 6 mL.nd (az (Bm rfl) 0x0 T.b_sum El ((dN (N':=["_law_mark_here","_law_boxes"]) (js:=[none,none]) (by kernel_rfl) rfl (d7 (eO hJ (pv 1) fR (dz (pv 5)))) (og (io (io qo))) (λ_ _ _ _=>(show PG _ _ (jr K 2 _) from cx (n:=2) rfl (bK (aY (i:=0) (show(["_law_mark_here","_law_boxes"]:List Str).Nodup by decide +kernel) rfl 0x4 (.inr rfl)) (bK (aY (i:=1) (show(["_law_mark_here","_law_boxes"]:List Str).Nodup by decide +kernel) rfl 0x4 (.inr rfl)) ck)))) (λ_ _ _ _=>cr) (λ_ _ _ _=>(az (show aw _ (.builtin "len") (EJ K) from ix) 0x0 T.b_len bV ((ae (show am _ (lq K) from eY) (pv 0) aH 0x5)>=>aD))))>=>aD))) @hW2); ?_);let#[w,wt,wl,oc,Hd,Hb,L,fns,cs,ms,ol,us,c,b,z,rfl,W,D,l1,S,hol,hu,ne,q]:=h;show#[_,(aJ (pS 5 mL.nd (bH<$>pv 2<*>(az ix 0x0 T.b_len bV (pv 1>=>aD)))) @hW1),?_];have lu:=Rk2.Ps.len hu;have hL2:=S.hl;have hL1:0<L.length:=List.length_pos_iff.mpr ne;have b0:=W.b;let#[a,ha,ha']:=md c (us.length:Nat) ∅;show#[21,ol,5,.inl (b0.seq hol),19,∅,?_];show fw 5 (V.int (c%(us.length:Nat))) _ _ _;rw[ha];obtain⟨x,hx⟩:∃x,L[a]?=⇑x:=#[_,HU ∅]
   have hxa:=(HV.mp hx).1;show#[85,ol,5,b0.seq hol,λsl hsl=>?_];rw[qi];have s1:=aB.new (o:=.lst (us.take a)) hsl;have e1:=aE.of (K:=K) (aI (H:=H) (a:=sl) (o:=.lst (us.take a)));generalize upd H sl (.lst (us.take a))=H1 at s1 e1 ⊢;show#[sl,rfl,#[_,e1],λpL hpL=>iH (K:=K) (λi G v=>∃x,(L.take a)[i]?=⇑x/\v=.int ((x.2.1.ch.length:Nat):Int)) (λ_ _ _ _ _ z=>z) (by rw[IE]; lia) e1 hpL ?_ ?_ (λ_ _ _ _ h z226_=>by let#[a,xs,e1,e2,e3,x1,r1,f1,x2,r2,f2,f3,z]:=z226_; show#[a,xs,e1,e2,e3,x1,r1,f1,x2,r2,f2,f3,h _ _ z])]
   . rintro i y G R_ hy sG ⟨acc,eacc⟩ kk;have hi:i<a:=by have:=(HV.mp hy).1; rw[IE] at this; lia
     rw[JE hi] at hy;obtain⟨v,hv,qa,mv,rfl,a1,⟨qm,ca,l,vv,rfl,m1,⟨cu,m2,m3⟩,m4,m5⟩⟩:=c8 hu (HU (i:=i) ∅);rw[hy] at hv;cases hv;have kG:=(b0\s1).trans sG;have lc:=Rk2.Ps.len m3;show#[qa,5,kG<*a1,403,?_];show#[5,qm,35,kG<*m1,rfl,ca,cu,rfl,.inr (kG<*m2),kk _ _ (aB.refl _) #[L[i]'∅,by rw[JE hi,HU],by rw[lc]]]
   rintro H3 vs s3 e3 l3 t3;have ev:vs=((L.take a).map λx:Lf=>((x.2.1.ch.length:Nat):Int)).map V.int:=by
     apply List.ext_getElem?;intro i;rw[Iq,Hk];cases hv:vs[i]? with
     | none =>
       have:(L.take a)[i]?=none:=by rw[JZ] at hv ⊢; rw[IE] at l3 ⊢; lia
       rw[this]; rfl
     | some v =>
       let#[u,h1,h2]:=t3 i v hv;rw[h1,h2]; rfl
   rw[ev] at e3;show#[pL,5,aE.of e3,?_];rw[zn];have k3:=s1\s3;have W3:=W.keep k3;have b3:=W3.b;obtain⟨v,hux,qa,mv,rfl,a1,⟨qm,ca,l,vv,rfl,m1,⟨cu,m2,m3⟩,m4,m5⟩⟩:=c8 hu hx;have M:=S.at_ a x hx;have hd:=W3.c.b _ _ (W3.at_ x (IA hx));have k1:=M.k1;show#[85,ol,35,b3.seq hol,bv hux,qa,35,b3<*a1,13,x.2.2,5,ci.k (k:=(Sum.inl b:aF)) hd (Rk2.lt_line' ∅),?_];have s4:aB (ers x.2.2 H3) (upd H3 x.2.2 (.dK (putK x.1.kvs (Sum.inl b:aF) (.int z)))):=pO;have e4:upd H3 x.2.2 (.dK (putK x.1.kvs (Sum.inl b:aF) (.int z))) x.2.2=_:=aI;generalize upd H3 x.2.2 (.dK (putK x.1.kvs (Sum.inl b:aF) (.int z)))=H4 at s4 e4 ⊢;obtain⟨A,B,rfl,rfl⟩:∃A B,L=A++x::B/\A.length=a:=by show#[L.take a,L.drop (a+1),?_,by rw[IE]; lia];have e:=(List.take_append_drop a L).symm;rw[Kh hxa,(HV.mp hx).2] at e;exact e
   have c4:CA t _ H4 w wt ((A++x::B).map (·.1)) oc [] ⟨[],0⟩ wl:=Own.putK W3.c (W3.at_ x (IA hx)) s4 e4;have d4:=W3.s.upd (o:=.dK (putK x.1.kvs (Sum.inl b:aF) (.int z))) (W3.no x (IA hx));have b4:=d4\c4.b;have lc:=Rk2.Ps.len m3;have ml1:=M.ok.l1;have ml3:=M.ok.l3;let#[r,hr,hr']:=md (c / 2) (cu.length:Nat) ∅;show#[339,#[#[],#[]],21,ol,35,b4.seq hol,bv hux,qa,35,b4<*a1,rfl,qm,35,b4<*m1,rfl,ca,cu,rfl,.inr (b4<*m2),19,∅,19,?_];rw[hr];obtain⟨p,hp⟩:∃p,x.2.1.ch[r]?=⇑p:=#[_,HU ∅]
   obtain⟨pl,hpl⟩:∃pl,x.2.1.vs[r]?=⇑pl:=#[_,HU (by rw[M.ok.p.len]; lia)]
   let#[F,LF]:=qU S hx hp hpl;have fi:=M.fi;rw[fi] at LF;show#[5,w.a,9,c4.o,213,w,wt,_,wl,fns,cs,ms,_,((dE (A++x::B) A.length+r:Nat):Int),b,z,rfl,#[oc,[],#[[],(0)],c4,D.mono d4,l1,by rw[HS]; lia],.inl #[_,x.1,x.2.1,p,pl,rfl,LF.lv,LF.c,∅,λH5 s5 e5=>?_]];show#[true,true,7,q A x B _ H5 rfl (W3.fill s4 e4 s5 e5)]
def fe:FnScope ["_law_walker","_law_names_here","_law_marks","_law_now","_law_more","_law_far","_law_given","_law_box","_law_cell","_law_number_here","_law_new","_law_k","_law_own","e"] ["_law_walker","_law_names_here","_law_marks","_law_now","_law_more"] (aS dj):=by walk_at "s"
def GI (T:Txt K mg t):FnOk P w K mg base CX0 18 t.xr t.z9 ["_law_walker","_law_names_here","_law_marks","_law_now","_law_more"] (F6 K t):=by
 have Qc:=wW (P:=P) (w:=w) (base:=base) T;have Qe:FnOk P w K mg base CX0 11 t.lR t.lU ["_law_one","_law_boxes"] (nP K 10):=rC T 10;have QA:=sD (P:=P) (w:=w) (base:=base) T;have Qo:=CC (P:=P) (w:=w) (base:=base) T;have Qj:=qD (P:=P) (w:=w) (base:=base) T;have Q0:FnOkH P w K mg base 1 t.rP t.rR ["self"] (tJ K t):=GH T;refine T.zQ.F.ok fe (λvs H Q E h=>?_) (λcdv A outer s H vs Q E hr h=>?_)
 . let#[_,_,_,_,_,_,_,_,_,_,_,_,_,_,_,_,rfl,_]:=h;rfl
 . skip
   refine lx ?_;intro XX;refine(let W10:TS:=_; have hW10:aO XX ((aP dj).drop 10) W10:=(~~~bZ); ?_);refine(let W9:TS:=_; have hW9:aO XX ((aP dj).drop 9) W9:=(aJ (wY (j:=13) fe.nd rfl rfl T.x_gE rfl rfl (kU (DA (aA 0) T.aZ.cl T.gX.m Qo (hr*>#[]) T.gX.b)) (λ_=>(~~~(g7 (az (show aw _ (.builtin "isinstance") (j8 K mg) from lE) 0x0 T.b_isinstance dh (aA 13>=>iF T.cm.g>=>aD)) (g7 (qH (az (show aw _ (.builtin "isinstance") (j8 K mg) from lE) 0x0 T.b_isinstance dh (aA 13>=>iF T.x_nN.g>=>aD))) (i5 (gQ bB (EM (aA 0) T.aZ.cl T.rJ.m Q0 (hr.hdm #[]) T.rJ.b) (aA 5) (ag _)))))))) @hW10); ?_);refine(let W8:TS:=_; have hW8:aO XX ((aP dj).drop 8) W8:=(aJ (af (@PW.pt _ _ _ (dP (eQ (i0 (gw (aA 0) T.aZ.cl T.gX.m Qo (hr*>#[]) T.gX.b .nil gL))) (dP (cX (cM (cD T.ie Qc hr (aA 0>=>bI aD>=>aA 1>=>aH>=>aD)))) (eZ (ao DK (gw (aA 0) T.aZ.cl T.ib.m Qj (hr*>#[]) T.ib.b .nil bR) bZ (ag _)))))) (~~~bZ) ac) @hW9); ?_);refine(let W7:TS:=_; have hW7:aO XX ((aP dj).drop 7) W7:=(aJ (af (@PW.pt _ _ _ (dP (eQ (i0 (gw (aA 0) T.aZ.cl T.gX.m Qo (hr*>#[]) T.gX.b .nil gL))) (eZ (cX (cM (cD T.ie Qc hr (aA 0>=>(bI ((bD ((iL K (aA 2))>=>aA 3>=>aD))>=>aD))>=>aA 1>=>aH>=>aD))))))) (~~~bZ) ac) @hW8); ?_);refine(let W6:TS:=_; have hW6:aO XX ((aP dj).drop 6) W6:=(aJ (af (@PW.pt _ _ _ (dP (cX (cM (cD T.rS QA hr (aA 0>=>aA 12>=>aA 8>=>aA 7>=>aA 9>=>aD)))) (eZ (cX (cM (cD T.ie Qc hr (aA 0>=>aA 12>=>aA 1>=>aH>=>aD))))))) (~~~bZ) ac) @hW7); ?_);refine(let W5:TS:=_; have hW5:aO XX ((aP dj).drop 5) W5:=(aJ (af (@PW.pt _ _ _ (dP (eQ (i0 (gw (aA 0) T.aZ.cl T.gX.m Qo (hr*>#[]) T.gX.b .nil gL))) (eZ (cX (cM (cD T.ie Qc hr (aA 0>=>aA 12>=>aA 1>=>(ay bc<$>aH<*>aA 5)>=>aD))))))) (~~~bZ) ac) @hW6); ?_);refine(let W4:TS:=_; have hW4:aO XX ((aP dj).drop 4) W4:=(aJ (pS 12 fe.nd (bI ((bD ((iL K (aA 2))>=>aA 3>=>aD))>=>(bD ((iL K (aA 2))>=>aA 10>=>aD))>=>aD))) @hW5); ?_);refine(let W3:TS:=_; have hW3:aO XX ((aP dj).drop 3) W3:=(aJ (bu PassesOwn.never rfl (cw rfl T.b_range ((az 0x1 0x0 T.b_len bV (aA 6>=>aD))>=>aD)) (aY (i:=11) fe.nd rfl 0x4) (@aK _ _ _ (dQ (bY hr.units) (aA 10) (aA 11) (cD T.jZ Qe hr ((iY K (aA 6) (aA 11))>=>aA 3>=>aD)) 0x0))) @hW4); ?_);refine(let W2:TS:=_; have hW2:aO XX ((aP dj).drop 2) W2:=(aJ (pS 10 fe.nd dy) @hW3); ?_);refine(let W1:TS:=_; have hW1:aO XX ((aP dj).drop 1) W1:=(aJ (af (cX (cM (cD T.ie Qc hr (aA 0>=>(bI ((bD ((iL K (aA 2))>=>aA 3>=>aD))>=>aD))>=>aA 1>=>(ay bc<$>aH<*>aA 5)>=>aD)))) (~~~bZ) ac) @hW2); ?_);let#[w,wt,Hd,Hb,f,X,nd,al,ml,d,mo,gl,gu,b,c,z,rfl,W,D,N,hM,hmo,hgl,hgu,z0,z1,ok,q]:=h;show#[_,(aJ (gS (aA 4) (Eo rfl (bK (aY (i:=5) fe.nd rfl 0x4) (bK (aY (i:=6) fe.nd rfl 0x4) (bK (aY (i:=7) fe.nd rfl 0x4) (bK (aY (i:=8) fe.nd rfl 0x4) (bK (aY (i:=9) fe.nd rfl 0x4) ck))))))) @hW1),?_];let#[v0,v1,v2,v3,M1,V0,V1,V2,V3]:=hM;let#[sp2,y1,y2,y3,y4]:=ok.sp2;let#[sp0,x1,x2]:=ok.sp0;let#[mk2,a1,a2,a3,a4]:=ok.mk2;let#[mk0,c1,c2]:=ok.mk0;have b0:=W.b;have lgu:=Rk2.Ps.len hgu;have tl:=ok.tl;have n1:=ok.k1.l3;have f5:=ok.f5;have fr:=ok.fr;let#[fa,fdx,fbx,ffn,fsp,fkv,ff]:=f;obtain rfl:ffn=X.o2:=ok.f1;obtain rfl:fsp=0:=ok.f2;obtain rfl:ff=0:=ok.f3;have f4:Rk2.DV fkv:=ok.f4;have f5:fkv.length<=100:=ok.f5;show#[5,mo,5,b0.seq hmo,205971,?_];show#[21,ml,35,b0.seq M1,13,bL,λp1 ni1=>#[eu,λp2 ni2=>?_]];have j1:=aB.new (o:=.tup [v0,↥d]) ni1;have q1:=aG.of (K:=K) (aI (H:=H) (a:=p1) (o:=.tup [v0,↥d]));generalize upd H p1 (.tup [v0,↥d])=G1 at j1 q1 ni2 ⊢;have j2:=aB.new (o:=.lst [↥p1]) ni2;have q2:=aE.of (K:=K) (aI (H:=G1) (a:=p2) (o:=.lst [↥p1]));generalize upd G1 p2 (.lst [↥p1])=G2 at j2 q2  ⊢;have j:=j1\j2;have WG:=W.keep j;have kG:=b0\j;show#[339,w,wt,[],X.fns,X.cs,X.ms,_,[(#[fa,fdx,fbx,X.o2,(0),fkv,(0)],X.m0,d)],nd,al,p2,X.kn,X.ws,[↥p1],1+X.far,rfl,#[8,WG.c,D.mono WG.s,(by simp <;> lia),0x8],lh ok.fn #[mk2,a1,a2] ok.k0 f4 (by show fkv.length<=_; lia) rfl,N.mono kG,q2,#[#[p1,v0,rfl,j2<*q1,V0.mono kG,WG.c.b _ _ (WG.at_ _ Hj)],trivial],λH3 s3=>#[5,iN ?_]];have W3:=WG.keep s3;clear j1 j2 j q1 q2 WG kG s3;intro e he;have b3:=W3.b;have hd3:H3 d=⇑(.dK fkv):=W3.c.b _ _ (W3.at_ _ Hj);have nde:d≠e:=λz=>by rw[<- z,hd3] at he; cases he
   have okW:∀z∈X.ts.map (Rk2.wv (Rk2.fOf fkv)),0<=z/\z<K21.wide:=λz hz=>by let#[u,hu,rfl]:=IJ.mp hz;exact E3 f4 (ok.ts u hu)
   have lW:((X.ts.map (Rk2.wv (Rk2.fOf fkv))).map V.int).length=gu.length:=by rw[HS,HS]; lia
   have s4:=aB.new (o:=.dK []) he;show#[5,gl,5,.inl ((b3\s4).seq hgl),5,∅,∅,(let Jv1:Nat->St->Hp->Prop:=λi σ H4=>H4=upd H3 e (.dK (bf (((X.ts.map (Rk2.wv (Rk2.fOf fkv))).map V.int).take i)))/\∃v,σ=[⇑↥w.a,⇑↥nd,⇑↥ml,⇑↥d,⇑↥mo,⇑(.int (X.far:Nat)),⇑↥gl,⇑(.int b),⇑(.int c),⇑(.int z),⇑↥e,v,none,none]; fH (lo:=0) (n:=gu.length) Jv1 #[13] ?_ ?_)]
   . rintro i σ H4 hi ⟨rfl,v,rfl⟩;have s4:=aB.new (o:=.dK (bf (((X.ts.map (Rk2.wv (Rk2.fOf fkv))).map V.int).take i))) he;have hi2:i<X.ts.length:=by lia
     let#[u,hu,ru]:=c8 hgu (HU hi2);have hy:((X.ts.map (Rk2.wv (Rk2.fOf fkv))).map V.int)[i]?=⇑(.int (Rk2.wv (Rk2.fOf fkv) X.ts[i])):=by rw[Hk,Hk,HU hi2]; rfl
     have e9:=(oM (ys:=(X.ts.map (Rk2.wv (Rk2.fOf fkv))).map V.int) (λy hy=>by let#[z,hz,rfl]:=IJ.mp hy; show#[z,rfl,okW z hz]) i ∅).2;have oku:=ok.ts _ (IT hi2);rw[Io];show#[21,gl,35,(b3\s4).seq hgl,bv hu,5,X.ts[i],u,d,fkv,rfl,oku.1,ru*>(b3\s4),s4 _ _ hd3,f4,oku.2,21,e,5,ci.k (k:=(Sum.inl (i:Int):aF)) aI (Rk2.lt_line' ∅),by rw[et,qQ hy],5]
   clear s4;rintro σ H4 ⟨rfl,v,rfl⟩;rw[Ic ∅];have dv2:=(oy okW).1;have ln2:=(oy okW).2;rw[HS] at ln2;have s4:=aB.new (o:=.dK (bf ((X.ts.map (Rk2.wv (Rk2.fOf fkv))).map V.int))) he;have W4:=W3.add s4;have ee:Wk.gr Hb H3 (upd H3 e (.dK (bf ((X.ts.map (Rk2.wv (Rk2.fOf fkv))).map V.int)))) e=⇑(.dK (bf ((X.ts.map (Rk2.wv (Rk2.fOf fkv))).map V.int))):=Wk.gr_new he aI;have hen:Hd e=none:=b3.free he;generalize Wk.gr Hb H3 (upd H3 e (.dK (bf ((X.ts.map (Rk2.wv (Rk2.fOf fkv))).map V.int))))=Hb4 at W4 ee;generalize upd H3 e (.dK (bf ((X.ts.map (Rk2.wv (Rk2.fOf fkv))).map V.int)))=H4 at W4 ⊢;clear s4 W3 b3 hd3 W b0 okW lW;have b4:=W4.b;show#[5,ml,35,b4.seq M1,13,bL,λp1 ni1=>?_];have j1:=aB.new (o:=.tup [v1,↥d]) ni1;have q1:=aG.of (K:=K) (aI (H:=H4) (a:=p1) (o:=.tup [v1,↥d]));generalize upd H4 p1 (.tup [v1,↥d])=G1 at j1 q1  ⊢;have b5:=b4\j1;show#[5,ml,35,b5.seq M1,13,bL,λp2 ni2=>#[bL,λol ni3=>?_]];have j2:=aB.new (o:=.tup [v3,↥e]) ni2;have q2:=aG.of (K:=K) (aI (H:=G1) (a:=p2) (o:=.tup [v3,↥e]));generalize upd G1 p2 (.tup [v3,↥e])=G2 at j2 q2 ni3 ⊢;have j3:=aB.new (o:=.lst [↥p1,↥p2]) ni3;have q3:=aE.of (K:=K) (aI (H:=G2) (a:=ol) (o:=.lst [↥p1,↥p2]));generalize upd G2 ol (.lst [↥p1,↥p2])=G3 at j3 q3  ⊢;have j:=(j1\j2).trans j3;have W5:=W4.grow j;have sX:aB Hd (Wk.gr Hd H4 G3):=Wk.gr_same b4;have h5e:Wk.gr Hb4 H4 G3 e=⇑(.dK (bf ((X.ts.map (Rk2.wv (Rk2.fOf fkv))).map V.int))):=Wk.gr_same W4.c.b _ _ ee;have hen5:Wk.gr Hd H4 G3 e=none:=Wk.gr_own (W4.c.b _ _ ee) hen;have q1':aG K (Wk.gr Hd H4 G3) p1 [v1,↥d]:=qJ ni1 ((j2\j3)<*q1);have q2':aG K (Wk.gr Hd H4 G3) p2 [v3,↥e]:=qJ (j1.free ni2) (j3<*q2);have q3':aE K (Wk.gr Hd H4 G3) ol [↥p1,↥p2]:=ot ((j1\j2).free ni3) q3;generalize Wk.gr Hb4 H4 G3=Hb5 at W5 h5e;generalize Wk.gr Hd H4 G3=Hx at W5 sX hen5 q1' q2' q3';clear W4 b4 b5 ee hen j q1 q2 q3 j1 j2 j3;have D5:=D.mono sX;have N5:=N.mono sX;have M5:=sX.seq M1;have V1':=V1.mono sX;have V2':=V2.mono sX;have V3':=V3.mono sX;clear D N M1 V0 V1 V2 V3 hgl hmo hgu sX;show#[5,w.a,9,W5.c.o,rfl,w.a,rfl,.inl #[w,wt,X.fns,X.cs,X.ms,Hb5,.non,[],#[[],(0)],[],[],#[fa,fdx,fbx,X.o2,(0),fkv,(0)],.call X.o0 X.ts 1,[],rfl,W5.c,D5.mono W5.s,Hw _,(show(0:Nat)<100 by decide),#[sp2,y1,y2],#[f4,by show fkv.length<=_; lia,(λu hu=>by cases hu),Hw _],ok.ts,by show X.ts.length<=_; lia,.inl #[X.o0,X.ts,(1),X.m1,rfl,#[mk2,a1,a3],by show 0+X.m1.ch.length<=_; lia,λx dx bx Hb7 H7 s7 c7=>#[5,iN ?_]]]];have c7:CA t Hb7 H7 w wt [⟨fa,fdx,fbx,X.o2,1,fkv,0⟩,⟨x,dx,bx,X.o0,0,(bf ((X.ts.map (Rk2.wv (Rk2.fOf fkv))).map V.int)),0+X.m1.ch.length⟩] .non [] ⟨[],0⟩ (List.replicate X.m1.ch.length ↥fa):=c7;rw[KH] at c7;have w5d:Hb5 d=⇑(.dK fkv):=W5.at_ _ Hj;have w5n:Hx d=none:=W5.no _ Hj;have W7:Wm t Hx Hb7 H7 w wt [(⟨fa,fdx,fbx,X.o2,1,fkv,0⟩,X.m1,d),(⟨x,dx,bx,X.o0,0,(bf ((X.ts.map (Rk2.wv (Rk2.fOf fkv))).map V.int)),X.m1.ch.length⟩,X.m3,e)] .non (List.replicate X.m1.ch.length ↥fa):=#[c7,W5.s.trans s7,λy hy=>by
     simp only[Hh,ID,or_false] at hy;rcases hy with rfl|rfl
     . exact s7 _ _ w5d
     . exact s7 _ _ h5e,λy hy=>by
     simp only[Hh,ID,or_false] at hy;rcases hy with rfl|rfl
     . exact w5n
     . exact hen5,by simp [nde]]
   have f5':fkv.length<=9000:=by lia
   have ln2':(bf ((X.ts.map (Rk2.wv (Rk2.fOf fkv))).map V.int)).length<=9000:=by lia
   generalize (bf ((X.ts.map (Rk2.wv (Rk2.fOf fkv))).map V.int))=k2 at W7 dv2 ln2';clear W5 h5e s7 c7 f5 ln2;have hown:Rk2.Ps (gq K Hx) [↥p1,↥p2] [((⟨fa,fdx,fbx,X.o2,1,fkv,0⟩:Fm),X.m1,d),(⟨x,dx,bx,X.o0,0,k2,X.m1.ch.length⟩,X.m3,e)]:=#[#[p1,v1,rfl,q1',V1'],#[p2,v3,rfl,q2',V3'],trivial]
   have S7:StA X.fns X.ms (List.replicate X.m1.ch.length ↥fa) [((⟨fa,fdx,fbx,X.o2,1,fkv,0⟩:Fm),X.m1,d),(⟨x,dx,bx,X.o0,0,k2,X.m1.ch.length⟩,X.m3,e)]:=gb (f:=#[fa,fdx,fbx,X.o2,(1),fkv,(0)]) (g:=#[x,dx,bx,X.o0,(0),k2,X.m1.ch.length]) ok.fn #[mk2,a1,a3] ok.k1 f4 (by show fkv.length<=_; lia) rfl #[mk0,c1,c2] ok.k3 dv2 (by show k2.length<=_; lia) rfl;have b7:=W7.b;have lr:(List.replicate X.m1.ch.length (V.ref fa)).length<=100:=by rw[JQ]; lia
   show#[5459,w,wt,_,X.fns,X.cs,X.ms,Hb7,_,nd,al,ol,X.kn,X.ws,[↥p1,↥p2],1+X.far,rfl,#[8,W7.c,D5.mono W7.s,lr,(show(2:Nat)<=100 by decide)],S7,N5.mono b7,b7.seq q3',gq.A W7 (λ_ h=>h) hown,λH8 s8=>#[5,iN ?_]];have W8:=W7.keep s8;clear W7 s8 b7;show#[1365,w,wt,_,.non,Hx,Hb7,_,X.fns,X.cs,X.ms,ol,[↥p1,↥p2],c,b,z,rfl,W8,D5,lr,S7,q3',hown,by simp,λA0 x0 B0 Hb9 H9 eL W9=>#[5,iN ?_]];obtain⟨k1',k2',W9,g1,g2,g3,g4⟩:∃k1' k2',Wm t Hx Hb9 H9 w wt [((⟨fa,fdx,fbx,X.o2,1,k1',0⟩:Fm),X.m1,d),(⟨x,dx,bx,X.o0,0,k2',X.m1.ch.length⟩,X.m3,e)] .non (List.replicate X.m1.ch.length ↥fa)/\Rk2.DV k1'/\Rk2.DV k2'/\k1'.length<=10000/\k2'.length<=10000:=by
     cases A0 with
     | nil =>
       cases eL;show#[4,W9,Rk2.DV_put f4 z0 z1,dv2,?_,∅];have:=Rk2.putK_len fkv (Sum.inl b:aF) (.int z);exact Hu this ∅
     | cons y A0 =>
       cases A0 with
       | nil =>
         cases eL;show#[4,W9,f4,Rk2.DV_put dv2 z0 z1,∅,?_];have:=Rk2.putK_len k2 (Sum.inl b:aF) (.int z);exact Hu this ∅
       | cons y2 A0 =>
         have:=Hr List.length eL;simp at this
   clear W8 S7 hown;have S9:StA X.fns X.ms (List.replicate X.m1.ch.length ↥fa) [((⟨fa,fdx,fbx,X.o2,1,k1',0⟩:Fm),X.m1,d),(⟨x,dx,bx,X.o0,0,k2',X.m1.ch.length⟩,X.m3,e)]:=gb (f:=#[fa,fdx,fbx,X.o2,(1),k1',(0)]) (g:=#[x,dx,bx,X.o0,(0),k2',X.m1.ch.length]) ok.fn #[mk2,a1,a3] ok.k1 g1 (by show k1'.length<=_; lia) rfl #[mk0,c1,c2] ok.k3 g2 (by show k2'.length<=_; lia) rfl;have hown:Rk2.Ps (gq K Hx) [↥p1,↥p2] [((⟨fa,fdx,fbx,X.o2,1,k1',0⟩:Fm),X.m1,d),(⟨x,dx,bx,X.o0,0,k2',X.m1.ch.length⟩,X.m3,e)]:=#[#[p1,v1,rfl,q1',V1'],#[p2,v3,rfl,q2',V3'],trivial]
   have b9:=W9.b;show#[85,w,wt,_,X.fns,X.cs,X.ms,Hb9,_,nd,al,ol,X.kn,X.ws,[↥p1,↥p2],(2),rfl,#[8,W9.c,D5.mono W9.s,lr,(show(2:Nat)<=100 by decide)],S9,N5.mono b9,b9.seq q3',gq.A W9 (λ_ h=>h) hown,λH10 s10=>#[5,iN ?_]];have W10:=W9.keep s10;clear W9 s10 b9 S9 hown;show#[5,w.a,9,W10.c.o,rfl,w.a,rfl,.inl #[w,wt,X.fns,X.cs,X.ms,Hb9,.non,[],#[[],(0)],List.replicate X.m1.ch.length ↥fa,[#[fa,fdx,fbx,X.o2,(1),k1',(0)]],#[x,dx,bx,X.o0,(0),k2',X.m1.ch.length],.back (.num 1),[],rfl,W10.c,D5.mono W10.s,lr,(show(1:Nat)<100 by decide),#[sp0,x1,x2],#[g2,by show k2'.length<=_; lia,(λu hu=>by cases hu),Hw _],(λu hu=>by cases IC.mp hu; show#[by show(0:Nat)<10; decide,Rk2.okl_one #[] #[]]),(show(1:Nat)<=100 by decide),.inr #[.num 1,rfl,.inr #[[],#[fa,fdx,fbx,X.o2,(1),k1',(0)],[],none,(2),rfl,#[sp2,y1,y3],#[g1,by show k1'.length<=_; lia,(λu hu=>by cases hu),Hw _],λwt2 Hb11 H11 s11 c11=>#[5,iN ?_]]]]];have w10d:Hb9 d=⇑(.dK k1'):=W10.at_ _ Hj;have W11:Wm t Hx Hb11 H11 w wt2 [((⟨fa,fdx,fbx,X.o2,2,k1',0⟩:Fm),X.m2,d)] .non []:=#[c11,W10.s.trans s11,λy hy=>by
     cases IC.mp hy;exact s11 _ _ w10d,λy hy=>by
     cases IC.mp hy;exact w5n,by simp]
   clear W10 s11 c11;have b11:=W11.b;show#[21,ml,35,b11.seq M5,13,bL,λp1 ni1=>#[eu,λp2 ni2=>?_]];have j1:=aB.new (o:=.tup [v2,↥d]) ni1;have q1:=aG.of (K:=K) (aI (H:=H11) (a:=p1) (o:=.tup [v2,↥d]));generalize upd H11 p1 (.tup [v2,↥d])=G1 at j1 q1 ni2 ⊢;have j2:=aB.new (o:=.lst [↥p1]) ni2;have q2:=aE.of (K:=K) (aI (H:=G1) (a:=p2) (o:=.lst [↥p1]));generalize upd G1 p2 (.lst [↥p1])=G2 at j2 q2  ⊢;have j:=j1\j2;have WG:=W11.keep j;have kG:=b11\j;show#[5,w,wt2,[],X.fns,X.cs,X.ms,_,[((#[fa,fdx,fbx,X.o2,(2),k1',(0)]:Fm),X.m2,d)],nd,al,p2,X.kn,X.ws,[↥p1],(2),rfl,#[8,WG.c,D5.mono WG.s,(by simp <;> lia),0x8],lh ok.fn #[mk2,a1,a4] ok.k2 g1 (by show k1'.length<=_; lia) rfl,N5.mono kG,q2,#[#[p1,v2,rfl,j2<*q1,V2'.mono kG,WG.c.b _ _ (WG.at_ _ Hj)],trivial],λH12 s12=>#[5,iN ?_]];have W12:=WG.keep s12;clear j1 j2 j q1 q2 WG kG s12 W11 b11;show#[5,w.a,9,W12.c.o,rfl,w.a,rfl,.inl #[w,wt2,X.fns,X.cs,X.ms,Hb11,.non,[],#[[],(0)],[],[],#[fa,fdx,fbx,X.o2,(2),k1',(0)],.back (.num X.far),[],rfl,W12.c,D5.mono W12.s,Hw _,(show(0:Nat)<100 by decide),#[sp2,y1,y4],#[g1,by show k1'.length<=_; lia,(λu hu=>by cases hu),Hw _],(λu hu=>by cases IC.mp hu; show#[by show(0:Nat)<10; decide,Rk2.okl_one ∅ fr]),(show(1:Nat)<=100 by decide),.inr #[.num X.far,rfl,.inl #[rfl,λHb13 H13 s13 c13=>#[5,iN ?_]]]]];have c13:CA t Hb13 H13 w wt2 [] (.int (X.far:Nat)) [] ⟨[],0⟩ []:=c13;have s13:=W12.s.trans s13;clear W12;show#[5,cO,λl0 k0=>?_];have j:=aB.new (o:=.lst []) k0;have c14:=c13.keep j;show#[5,w,wt2,[],X.fns,X.cs,X.ms,Hb13,[],nd,al,l0,X.kn,X.ws,[],(2),rfl,#[8,c14,D5.mono s13,Hw _,Hw _],st0 ok.fn,N5.mono (s13\c14.b),aE.of aI,trivial,λH15 s15=>#[5,iN ?_]];have c15:=c14.keep s15;show#[5,w.a,9,c15.o,rfl,w,wt2,[],16,Hb13,rfl,c15,Hw _,true,true,29,iN ?_];show#[5,w.a,9,c15.o,rfl,w.a,rfl,.inr #[Hb13,w,wt2,33,c15,λH1 s1=>?_]];show#[t.cm,5,T.cm,T.e_Ended,λea hea=>?_];have s2:=aB.new (o:=XC ea t.cm none) hea;have hX:=aI (H:=H1) (a:=ea) (o:=XC ea t.cm none);have c16:=c15.keep (s1\s2);generalize upd H1 ea (XC ea t.cm none)=H2 at s2 hX c16 ⊢;show#[5,ea,129,hX,(λdx z=>by cases z),T.cm,rfl,T.k_Ended_Ended,5,iP #[5,ea,129,hX,(λdx z=>by cases z),T.cm,rfl,T.k_Ended_nN,21,iP #[5,w.a,9,c16.o,rfl,w,wt2,32,Hb13,rfl,c16,11,vq (Hr V.bl (Hf rfl)) (q H2)]]]
def cV:FnScope ["_law_script","_law_cells","_law_owns","_law_unlike","_law_words","_law_program","_law_k","_law_many","_law_names_here","_law_boxes","_law_args","_law_given","_law_marks","_law_far","_law_spots","_law_code","_law_table","_law_walker","_law_now","_law_more"] ["_law_script"] (aS cg):=by walk_at "s"
def ok_law (T:Txt K mg t):FnOk P w K mg base CX0 19 t.xu t.oR ["_law_script"] (sp_law K):=by
 have QD:=Ar (P:=P) (w:=w) (base:=base) T;have Qp:=BB (P:=P) (w:=w) (base:=base) T;have Q1:=De (P:=P) (w:=w) (base:=base) T;have Q2:=GI (P:=P) (w:=w) (base:=base) T;have Q3:=zS (P:=P) (w:=w) (base:=base) T;have Qx:=wJ (P:=P) (w:=w) (base:=base) T;have Q4:=Aj (P:=P) (w:=w) (base:=base) T;have Qc:=wW (P:=P) (w:=w) (base:=base) T;have QA:=sD (P:=P) (w:=w) (base:=base) T;have Q5:=AA (P:=P) (w:=w) (base:=base) T;refine T.law.F.ok cV (λvs H Q E h=>?_) (λcdv A outer s H vs Q E hr h=>?_)
 . let#[_,_,rfl,_]:=h;rfl
 . skip
   refine lx ?_;intro XX;refine(let W21:TS:=_; have hW21:aO XX ((aP cg).drop 21) W21:=(@aJ _ _ _ _ _ (@dO _ _ 19 _ _ _ _ cV.nd rfl 0x4 (@bI _ _ _ _ (@aN _ _ _ _ _ (aA 13) (@aN _ _ _ _ _ (aA 11) (@aN _ _ _ _ _ (@ae _ _ _ _ _ _ _ 0x2 (aA 9) (aV bH<$>(@ae _ _ _ _ _ _ _ 0x2 (aA 1) aH 0x5)<*>aH) 0x5) (@aN _ _ _ _ _ (@ae _ _ _ _ _ _ _ 0x2 (aA 1) aH 0x5) (@aN _ _ _ _ _ (cP T.lX Qp (hr*>#[]) (@aN _ _ _ _ _ (@ae _ _ _ _ _ _ _ 0x2 (aA 1) aH 0x5) aD 0x0)) aD 0x0) 0x0) 0x0) 0x0) 0x0)) 0x0 (by walk_at "f")) (~~~(cP T.zQ Q2 (hr*>#[]) (@aN _ _ _ _ _ (aA 17) (@aN _ _ _ _ _ (aA 8) (@aN _ _ _ _ _ (aA 12) (@aN _ _ _ _ _ (aA 18) (@aN _ _ _ _ _ (aA 19) aD 0x0) 0x0) 0x0) 0x0) 0x0)))); ?_);refine(let W19:TS:=_; have hW19:aO XX ((aP cg).drop 19) W19:=(@aJ _ _ _ _ _ (@af _ _ _ _ _ _ _ _ (cX (cM (cP T.ie Qc (hr*>#[]) (@aN _ _ _ _ _ (aA 17) (@aN _ _ _ _ _ (@bI _ _ _ _ (@aN _ _ _ _ _ (@bD _ _ _ _ _ (@aN _ _ _ _ _ (@ae _ _ _ _ _ _ _ 0x2 (aA 12) aH 0x5) (@aN _ _ _ _ _ (aA 18) aD 0x0) 0x0)) aD 0x0)) (@aN _ _ _ _ _ (aA 8) (@aN _ _ _ _ _ (ay bc<$>aH<*>aA 13) aD 0x0) 0x0) 0x0) 0x0)))) (~~~bZ) ac) (@aJ _ _ _ _ _ (@af _ _ _ _ _ _ _ _ (cX (cM (cP T.rS QA (hr*>#[]) (@aN _ _ _ _ _ (aA 17) (@aN _ _ _ _ _ (@bI _ _ _ _ (@aN _ _ _ _ _ (@bD _ _ _ _ _ (@aN _ _ _ _ _ (@ae _ _ _ _ _ _ _ 0x2 (aA 12) aH 0x5) (@aN _ _ _ _ _ (aA 18) aD 0x0) 0x0)) aD 0x0)) (@aN _ _ _ _ _ (@ae _ _ _ _ _ _ _ 0x2 (aA 1) aH 0x5) (@aN _ _ _ _ _ (@ae _ _ _ _ _ _ _ 0x2 (aA 9) (aV bH<$>(@ae _ _ _ _ _ _ _ 0x2 (aA 1) aH 0x5)<*>aH) 0x5) (@aN _ _ _ _ _ (cP T.lX Qp (hr*>#[]) (@aN _ _ _ _ _ (@ae _ _ _ _ _ _ _ 0x2 (aA 1) aH 0x5) aD 0x0)) aD 0x0) 0x0) 0x0) 0x0) 0x0)))) (~~~bZ) ac) @hW21)); ?_);refine(let W17:TS:=_; have hW17:aO XX ((aP cg).drop 17) W17:=(@aJ _ _ _ _ _ (@dO _ _ 18 _ _ _ _ cV.nd rfl 0x4 dy 0x0 (by walk_at "f")) (@aJ _ _ _ _ _ (bu PassesOwn.never rfl (cw rfl T.b_range (@aN _ _ _ _ _ (az 0x1 0x0 T.b_len bV (@aN _ _ _ _ _ (aA 10) aD 0x0)) aD 0x0)) (aY (i:=6) cV.nd rfl 0x4) (@aK _ _ _ (dQ (bY hr.units) (aA 18) (aA 6) (@ae _ _ _ _ _ _ _ 0x2 (aA 10) (aA 6) 0x5) 0x0))) @hW19)); ?_);refine(let W15:TS:=_; have hW15:aO XX ((aP cg).drop 15) W15:=(@gN _ _ _ _ _ (@dO _ _ 16 _ _ _ _ cV.nd rfl 0x4 (@bI _ _ _ _ (@aN _ _ _ _ _ (@bD _ _ _ _ _ (@aN _ _ _ _ _ (@ae _ _ _ _ _ _ _ 0x2 (aA 2) aH 0x5) (@aN _ _ _ _ _ (@eO _ _ _ _ _ _ _ _ _ _ hJ (aA 12) (dz aH) fR) aD 0x0) 0x0)) (@aN _ _ _ _ _ (@bD _ _ _ _ _ (@aN _ _ _ _ _ (@ae _ _ _ _ _ _ _ 0x2 (aA 2) aH 0x5) (@aN _ _ _ _ _ (@eO _ _ _ _ _ _ _ _ _ _ hJ (aA 12) (dz aH) (dz aH)) aD 0x0) 0x0)) (@aN _ _ _ _ _ (@bD _ _ _ _ _ (@aN _ _ _ _ _ (@ae _ _ _ _ _ _ _ 0x2 (aA 2) aH 0x5) (@aN _ _ _ _ _ (@eO _ _ _ _ _ _ _ _ _ _ hJ (aA 12) fR (dz aH)) aD 0x0) 0x0)) aD 0x0) 0x0) 0x0)) 0x0 (by walk_at "f")) (@aJ _ _ _ _ _ (@dO _ _ 17 _ _ _ _ cV.nd rfl 0x4 (pZ T.aZ T.wq Q1 (hr*>#[]) (@aN _ _ _ _ _ (aA 5) (@aN _ _ _ _ _ (aA 15) (@aN _ _ _ _ _ (aA 16) (@aN _ _ _ _ _ (aA 10) aD 0x0) 0x0) 0x0) 0x0)) 0x0 (by walk_at "f")) @hW17)); ?_);refine(let W14:TS:=_; have hW14:aO XX ((aP cg).drop 14) W14:=(@gN _ _ _ _ _ (@dO _ _ 15 _ _ _ _ cV.nd rfl 0x4 (@bI _ _ _ _ (@aN _ _ _ _ _ (@bD _ _ _ _ _ (@aN _ _ _ _ _ (@ae _ _ _ _ _ _ _ 0x2 (aA 2) aH 0x5) (@aN _ _ _ _ _ (@bI _ _ _ _ (@aN _ _ _ _ _ (@bD _ _ _ _ _ (@aN _ _ _ _ _ (@bI _ _ _ _ aD) (@aN _ _ _ _ _ (@bD _ _ _ _ _ (@aN _ _ _ _ _ ai (@aN _ _ _ _ _ (@bD _ _ _ _ _ (@aN _ _ _ _ _ ai (@aN _ _ _ _ _ aH aD 0x0) 0x0)) aD 0x0) 0x0)) aD 0x0) 0x0)) aD 0x0)) aD 0x0) 0x0)) (@aN _ _ _ _ _ (@bD _ _ _ _ _ (@aN _ _ _ _ _ (@ae _ _ _ _ _ _ _ 0x2 (aA 2) aH 0x5) (@aN _ _ _ _ _ (@bI _ _ _ _ (@aN _ _ _ _ _ (@bD _ _ _ _ _ (@aN _ _ _ _ _ (@bI _ _ _ _ aD) (@aN _ _ _ _ _ (@bD _ _ _ _ _ (@aN _ _ _ _ _ ai (@aN _ _ _ _ _ (@bD _ _ _ _ _ (@aN _ _ _ _ _ ai (@aN _ _ _ _ _ aH aD 0x0) 0x0)) aD 0x0) 0x0)) aD 0x0) 0x0)) aD 0x0)) aD 0x0) 0x0)) (@aN _ _ _ _ _ (@bD _ _ _ _ _ (@aN _ _ _ _ _ (@ae _ _ _ _ _ _ _ 0x2 (aA 2) aH 0x5) (@aN _ _ _ _ _ (aA 14) aD 0x0) 0x0)) aD 0x0) 0x0) 0x0)) 0x0 (by walk_at "f")) @hW15); ?_);refine(let W13:TS:=_; have hW13:aO XX ((aP cg).drop 13) W13:=(@gN _ _ _ _ _ (@dO _ _ 14 _ _ _ _ cV.nd rfl 0x4 (@bI _ _ _ _ (@aN _ _ _ _ _ (@bD _ _ _ _ _ (@aN _ _ _ _ _ (@bI _ _ _ _ aD) (@aN _ _ _ _ _ (@bD _ _ _ _ _ (@aN _ _ _ _ _ ai (@aN _ _ _ _ _ (@ae _ _ _ _ _ _ _ 0x2 (aA 2) aH 0x5) (@aN _ _ _ _ _ (dk jH 0x0 T.b_tuple gW (@aN _ _ _ _ _ (aA 11) aD 0x0)) (@aN _ _ _ _ _ aH aD 0x0) 0x0) 0x0) 0x0)) aD 0x0) 0x0)) (@aN _ _ _ _ _ (@bD _ _ _ _ _ (@aN _ _ _ _ _ (@bI _ _ _ _ aD) (@aN _ _ _ _ _ (@bD _ _ _ _ _ (@aN _ _ _ _ _ ai (@aN _ _ _ _ _ eP (@aN _ _ _ _ _ aH aD 0x0) 0x0) 0x0)) aD 0x0) 0x0)) (@aN _ _ _ _ _ (@bD _ _ _ _ _ (@aN _ _ _ _ _ (@bI _ _ _ _ aD) (@aN _ _ _ _ _ (@bD _ _ _ _ _ (@aN _ _ _ _ _ ai (@aN _ _ _ _ _ (@bD _ _ _ _ _ (@aN _ _ _ _ _ ai (@aN _ _ _ _ _ (aA 13) aD 0x0) 0x0)) aD 0x0) 0x0)) aD 0x0) 0x0)) aD 0x0) 0x0) 0x0)) 0x0 (by walk_at "f")) @hW14); ?_);refine(let W12:TS:=_; have hW12:aO XX ((aP cg).drop 12) W12:=(@aJ _ _ _ _ _ (@dO _ _ 13 _ _ _ _ cV.nd rfl 0x4 (cP T.lX Qp (hr*>#[]) (@aN _ _ _ _ _ (@ae _ _ _ _ _ _ _ 0x2 (aA 1) aH 0x5) aD 0x0)) 0x0 (by walk_at "f")) @hW13); ?_);refine(let W11:TS:=_; have hW11:aO XX ((aP cg).drop 11) W11:=(@gN _ _ _ _ _ (oH (i:=12) cV.nd rfl 0x4 (N':=["_law_k","_law_program","_law_boxes","_law_cells"]) (js:=[none,some 5,some 9,some 1]) (by kernel_rfl) rfl (cw rfl T.b_range (@aN _ _ _ _ _ aH aD 0x0)) dH (λ_ _ _ _=>(aY (i:=0) (show(["_law_k","_law_program","_law_boxes","_law_cells"]:List Str).Nodup by decide +kernel) rfl 0x4 (.inr rfl))) (λ_ _ _ _=>cr) (λ_ _ _ _=>(cP T.zM Q4 (hr*>#[]) (@aN _ _ _ _ _ (@ae _ _ _ _ _ _ _ 0x2 (aA 3) (ay bc<$>aH<*>aA 0) 0x5) (@aN _ _ _ _ _ (aA 1) (@aN _ _ _ _ _ (@ae _ _ _ _ _ _ _ 0x2 (@uc _ _ [V.int 2,V.int 2,V.int 2,V.int 0] (by kernel_rfl)) (aA 0) 0x5) (@aN _ _ _ _ _ (aA 2) aD 0x0) 0x0) 0x0) 0x0))) 0x0) @hW12); ?_);refine(let W10:TS:=_; have hW10:aO XX ((aP cg).drop 10) W10:=(@gN _ _ _ _ _ (oH (i:=11) cV.nd rfl 0x4 (N':=["_law_k","_law_boxes","_law_cells"]) (js:=[none,some 9,some 1]) (by kernel_rfl) rfl (cw rfl T.b_range (@aN _ _ _ _ _ (az 0x1 0x0 T.b_len bV (@aN _ _ _ _ _ (@ae _ _ _ _ _ _ _ (show am _ (jk K) from oP) (@ae _ _ _ _ _ _ _ 0x2 (aA 5) aH 0x5) aH 0x5) aD 0x0)) aD 0x0)) dH (λ_ _ _ _=>(aY (i:=0) (show(["_law_k","_law_boxes","_law_cells"]:List Str).Nodup by decide +kernel) rfl 0x4 (.inr rfl))) (λ_ _ _ _=>cr) (λ_ _ _ _=>(cP T.rX Qx (hr*>#[]) (@aN _ _ _ _ _ (@ae _ _ _ _ _ _ _ 0x2 (aA 2) (ay bc<$>aH<*>aA 0) 0x5) (@aN _ _ _ _ _ (aA 1) aD 0x0) 0x0))) 0x0) @hW11); ?_);refine(let W9:TS:=_; have hW9:aO XX ((aP cg).drop 9) W9:=(@gN _ _ _ _ _ (oH (i:=10) cV.nd rfl 0x4 (N':=["_law_k","_law_cells"]) (js:=[none,some 1]) (by kernel_rfl) rfl (cw rfl T.b_range (@aN _ _ _ _ _ (az 0x1 0x0 T.b_len bV (@aN _ _ _ _ _ (@ae _ _ _ _ _ _ _ (show am _ (jk K) from oP) (@ae _ _ _ _ _ _ _ 0x2 (aA 5) aH 0x5) aH 0x5) aD 0x0)) aD 0x0)) dH (λ_ _ _ _=>(aY (i:=0) (show(["_law_k","_law_cells"]:List Str).Nodup by decide +kernel) rfl 0x4 (.inr rfl))) (λ_ _ _ _=>cr) (λ_ _ _ _=>(cP T.lX Qp (hr*>#[]) (@aN _ _ _ _ _ (@ae _ _ _ _ _ _ _ 0x2 (aA 1) (ay bc<$>aH<*>aA 0) 0x5) aD 0x0))) 0x0) @hW10); ?_);refine(let W8:TS:=_; have hW8:aO XX ((aP cg).drop 8) W8:=(@aJ _ _ _ _ _ (@dO _ _ 9 _ _ _ _ cV.nd rfl (Or.inr rfl) (@bI _ _ _ _ (@aN _ _ _ _ _ aH (@aN _ _ _ _ _ aH (@aN _ _ _ _ _ aH (@aN _ _ _ _ _ aH (@aN _ _ _ _ _ aH (@aN _ _ _ _ _ aH (@aN _ _ _ _ _ (ay bc<$>aH<*>(aV bH<$>(@ae _ _ _ _ _ _ _ 0x2 (aA 1) aH 0x5)<*>aH)) (@aN _ _ _ _ _ (ay bc<$>aH<*>(aV bH<$>(aV cK<$>(@ae _ _ _ _ _ _ _ 0x2 (aA 1) aH 0x5)<*>aH)<*>aH)) aD 0x0) 0x0) 0x0) 0x0) 0x0) 0x0) 0x0) 0x0)) 0x0 (by walk_at "f")) @hW9); ?_);refine(let W7:TS:=_; have hW7:aO XX ((aP cg).drop 7) W7:=(@gN _ _ _ _ _ (dQ (bY hr.units) (aA 8) ai (mJ<$>(mJ<$>(mJ<$>(@ae _ _ _ _ _ _ _ 0x2 (aA 4) aH 0x5)<*>(@ae _ _ _ _ _ _ _ 0x2 (aA 4) aH 0x5))<*>(@ae _ _ _ _ _ _ _ 0x2 (aA 4) aH 0x5))<*>(@bI _ _ _ _ (@aN _ _ _ _ _ (mQ<$>(cU PySem.F.plainAttrs_str PySem.F.slot_str_join PySem.F.type_str_join sN ai (@aN _ _ _ _ _ (dN (N':=["_law_word"]) (js:=[none]) (by kernel_rfl) rfl (d7 (aA 2)) dH (λ_ _ _ _=>(aY (i:=0) (show(["_law_word"]:List Str).Nodup by decide +kernel) rfl 0x4 (.inr rfl))) (λ_ _ _ _=>cr) (λ_ _ _ _=>(@eO _ _ _ _ _ _ _ _ _ _ qP (aA 0) fR (dz aH)))) aD 0x0))<*>ai) aD 0x0))) 0x0) @hW8); ?_);refine(let W6:TS:=_; have hW6:aO XX ((aP cg).drop 6) W6:=(@aJ _ _ _ _ _ (@dO _ _ 8 _ _ _ _ cV.nd rfl 0x4 (Ci (oq (@ae _ _ _ _ _ _ _ 0x2 (aA 2) aH 0x5) (@ae _ _ _ _ _ _ _ 0x2 (aA 4) aH 0x5) (oq (@ae _ _ _ _ _ _ _ 0x2 (aA 2) aH 0x5) (@ae _ _ _ _ _ _ _ 0x2 (aA 4) aH 0x5) (oq (@ae _ _ _ _ _ _ _ 0x2 (aA 2) aH 0x5) (@ae _ _ _ _ _ _ _ 0x2 (aA 4) aH 0x5) EZ))) 0x0 0x0 0x8 #[]) 0x0 (by walk_at "f")) @hW7); ?_);refine(let W5:TS:=_; have hW5:aO XX ((aP cg).drop 5) W5:=(@aJ _ _ _ _ _ (bu PassesOwn.never rfl (cw rfl T.b_range (@aN _ _ _ _ _ aH aD 0x0)) (aY (i:=6) cV.nd rfl 0x4) (@aJ _ _ _ _ _ (@bW _ _ _ _ (cU Ht IK IL g9 (aA 4) (@aN _ _ _ _ _ (cP T.rV QD (hr*>#[]) (@aN _ _ _ _ _ (@ae _ _ _ _ _ _ _ 0x2 (aA 1) (ay bc<$>aH<*>(aV bH<$>aA 6<*>aA 3)) 0x5) (@aN _ _ _ _ _ (ay bc<$>aH<*>(aV bH<$>(aV cK<$>(@ae _ _ _ _ _ _ _ 0x2 (aA 1) aH 0x5)<*>(@ae _ _ _ _ _ _ _ 0x2 (@bI _ _ _ _ (@aN _ _ _ _ _ aH (@aN _ _ _ _ _ aH (@aN _ _ _ _ _ aH aD 0x0) 0x0) 0x0)) (aA 6) 0x5))<*>aH)) aD 0x0) 0x0)) aD 0x0)) 0x0) (@aJ _ _ _ _ _ (@dO _ _ 7 _ _ _ _ cV.nd rfl 0x4 (aV bH<$>(aV cK<$>(@ae _ _ _ _ _ _ _ 0x2 (aA 1) aH 0x5)<*>(@ae _ _ _ _ _ _ _ 0x2 (@bI _ _ _ _ (@aN _ _ _ _ _ aH (@aN _ _ _ _ _ aH (@aN _ _ _ _ _ aH aD 0x0) 0x0) 0x0)) (aA 6) 0x5))<*>(ay bc<$>(az 0x1 0x0 T.b_len bV (@aN _ _ _ _ _ (@ae _ _ _ _ _ _ _ 0x2 (aA 4) (aA 6) 0x5) aD 0x0))<*>aH)) 0x0 (by walk_at "f")) (@aK _ _ _ (@bW _ _ _ _ (cU Ht IK IL g9 (aA 5) (@aN _ _ _ _ _ (cP T.zL Q5 (hr*>#[]) (@aN _ _ _ _ _ (@ae _ _ _ _ _ _ _ 0x2 (aA 2) (aA 6) 0x5) (@aN _ _ _ _ _ (@ae _ _ _ _ _ _ _ 0x2 (aA 4) (aA 6) 0x5) (@aN _ _ _ _ _ (aA 7) aD 0x0) 0x0) 0x0)) aD 0x0)) 0x0))))) @hW6); ?_);refine(let W3:TS:=_; have hW3:aO XX ((aP cg).drop 3) W3:=(@aJ _ _ _ _ _ (@dO _ _ 4 _ _ _ _ cV.nd rfl 0x4 (@bI _ _ _ _ aD) 0x0 (by walk_at "f")) (@aJ _ _ _ _ _ (@dO _ _ 5 _ _ _ _ cV.nd rfl (Or.inr rfl) (@bI _ _ _ _ aD) 0x0 (by walk_at "f")) @hW5)); ?_);let#[a,ns,rfl,hS,hL,q]:=h;show#[_,(@aJ _ _ _ _ _ (@dO _ _ 1 _ _ _ _ cV.nd rfl (Or.inr rfl) (dN (N':=["_law_k","_law_script"]) (js:=[none,some 0]) (by kernel_rfl) rfl (cw rfl T.b_range (@aN _ _ _ _ _ aH aD 0x0)) dH (λ_ _ _ _=>(aY (i:=0) (show(["_law_k","_law_script"]:List Str).Nodup by decide +kernel) rfl 0x4 (.inr rfl))) (λ_ _ _ _=>cr) (λ_ _ _ _=>(cP T.zJ Q3 (hr*>#[]) (@aN _ _ _ _ _ (aA 1) (@aN _ _ _ _ _ (aA 0) aD 0x0) 0x0)))) 0x0 (by walk_at "f")) (@aJ _ _ _ _ _ (@dO _ _ 2 _ _ _ _ cV.nd rfl 0x4 (cP T.rV QD (hr*>#[]) (@aN _ _ _ _ _ (@ae _ _ _ _ _ _ _ 0x2 (aA 1) aH 0x5) (@aN _ _ _ _ _ aH aD 0x0) 0x0)) 0x0 (by walk_at "f")) (@aJ _ _ _ _ _ (@dO _ _ 3 _ _ _ _ cV.nd rfl 0x4 (ay bc<$>aH<*>(aV bH<$>(aV cK<$>(@ae _ _ _ _ _ _ _ 0x2 (aA 1) aH 0x5)<*>aH)<*>aH)) 0x0 (by walk_at "f")) @hW3))),?_];show#[5,#[],#[],λcl hcl=>(let Jv1:Nat->List V->Hp->Prop:=λi acc H2=>aB H H2/\H2 cl=⇑(.lst acc)/\∃zs:List Int,acc=zs.map V.int/\zs.length=i; mx (lo:=0) (n:=24) #[] Jv1 #[aB.new hcl,aI,[],7] ?_ ?_ ?_)]
   . rintro i acc H2 hi ⟨s2,e2,zs,rfl,lz⟩;show#[e2,by rw[HS,lz]; exact HY _]
   . rintro i acc H2 hi ⟨s2,e2,zs,rfl,lz⟩;show#[21,a,ns,5,s2.seq hS,hL,∅,λz=>#[e2,s2.upd hcl,aI,zs++[z],?_,by rw[HZ,lz]; rfl]];rw[Hq];rfl
   rintro acc H1 ⟨-,e_cl,cc,rfl,lc⟩;let#[c0,hc0]:=dm lc 0 #[];let#[c4,hc4]:=dm lc 4 #[];let#[c5,hc5]:=dm lc 5 #[];let#[c16,hc16]:=dm lc 16 #[];let#[c17,hc17]:=dm lc 17 #[];let#[c18,hc18]:=dm lc 18 #[];let#[c19,hc19]:=dm lc 19 #[];let#[c20,hc20]:=dm lc 20 #[];let#[c21,hc21]:=dm lc 21 #[];let#[c22,hc22]:=dm lc 22 #[];have F:=(Al.nil (H:=H1)).add e_cl;show#[5,cl,35,aE.of F.2.1,hc0,c0,(3),rfl,#[],λow w3 ond onm one ol H2 sn hol e_ol=>?_];have F:=F.mono sn; have F:=F.re; have F:=F.add e_ol
   obtain⟨o0,o1,o2,rfl⟩:∃x y z,ow=[x,y,z]:=by match ow,w3 with | [x,y,z],_=>exact⟨x,y,z,rfl⟩
   obtain⟨un,hun,un1⟩:∃un:Nat,1+c0 / 5%3=(un:Int)/\(1<=un/\un<=3):=by let#[r,h1,h2]:=md (c0 / 5) 3 #[];show#[1+r,∅,∅]
   show#[5,cl,35,aE.of F.2.2.1,hc0,19,#[#[],#[]],19,(show(0:Int)<3 by decide),19,?_];show fw 3 (V.int (1+c0 / 5%3)) _ _ _;rw[hun];show#[cO,λwl hwl=>#[cO,λpl hpl=>?_]];have nwp:wl≠pl:=λz=>by rw[<- z,aI] at hpl; cases hpl
   have t1:=aB.new (o:=.lst []) hwl;have hplH:=t1.free hpl;have t2:=t1\(aB.new (o:=.lst []) hpl);have ew:upd (upd H2 wl (.lst [])) pl (.lst []) wl=⇑(.lst []):=by rw[aM nwp]; exact aI
   have ep:upd (upd H2 wl (.lst [])) pl (.lst []) pl=⇑(.lst []):=aI;generalize upd (upd H2 wl (.lst [])) pl (.lst [])=H3 at t2 ew ep ⊢;show#[5,#[],#[],(let Jv2:Nat->St->Hp->Prop:=λi σ G=>aB H2 G/\∃v6 v7,∃M:List (L6×F2.Fd),σ=[⇑↥a,⇑↥cl,⇑↥ol,⇑(.int (un:Int)),⇑↥wl,⇑↥pl,v6,v7,none,none,none,none,none,none,none,none,none,none,none,none]/\G wl=⇑(.lst (M.map λx=>V.ref x.1))/\G pl=⇑(.lst (M.map λx=>V.ref x.2.fa))/\M.length=i/\∀j x,M[j]?=⇑x->FwA K (ers pl (ers wl G)) [o0,o1,o2] j x; fH (lo:=0) (n:=3) Jv2 #[t2,4,[],rfl,ew,ep,rfl,λj x h=>by simp at h] ?_ ?_)]
   . rintro i σ G hi ⟨s3,v6,v7,M,rfl,ew,ep,lM,fM⟩;rw[Io];have FH:=F;have F:=F.mono s3;obtain⟨d1,hd1,d10,d11⟩:∃d:Int,aq [V.int 1,V.int 3,V.int 9] (i:Int)=⇑(.int d)/\0<d/\d<1000:=by
       obtain rfl|rfl|rfl:i=0\/i=1\/i=2:=by lia
       . show#[(1),rfl,#[],#[]]
       . show#[(3),rfl,#[],#[]]
       . show#[(9),rfl,#[],#[]]
     obtain⟨d2,hd2,d20,d21⟩:∃d:Int,aq [V.int 27,V.int 108,V.int 432] (i:Int)=⇑(.int d)/\0<d/\d<1000:=by
       obtain rfl|rfl|rfl:i=0\/i=1\/i=2:=by lia
       . show#[(27),rfl,#[],#[]]
       . show#[(108),rfl,#[],#[]]
       . show#[(432),rfl,#[],#[]]
     obtain⟨oi,hoi,hom⟩:∃o,[o0,o1,o2][i]?=⇑o/\o∈[o0,o1,o2]:=#[_,HU hi,IT hi]
     obtain⟨cq,hcq⟩:∃z,aq (cc.map V.int) (1+(i:Int)%(un:Int))=⇑(.int z):=by let#[r,h1,h2]:=md (i:Int) (un:Int) ∅;let#[z,hz]:=dm lc (1+r) ∅;show#[z,by rw[h1,<- hz]; congr 1]
     obtain⟨mn,hmn,mn1⟩:∃n:Nat,1+c4 / d1%3=(n:Int)/\(1<=n/\n<=3):=by let#[r,h1,h2]:=md (c4 / d1) 3 #[];show#[1+r,∅,∅]
     show#[5,.inl #[6,aE.of ew],1363,∅,19,cl,35,aE.of F.2.2.1,hcq,5,cl,35,aE.of F.2.2.1,hc4,dU,λL1 hL1=>?_];have u1:=aB.new (o:=.lst [V.int 1,V.int 3,V.int 9]) hL1;show#[5,L1,35,aE.of aI,hd1,?_];generalize upd G L1 (.lst [V.int 1,V.int 3,V.int 9])=G1 at u1 ⊢;show#[19,#[∅,∅],19,(show(0:Int)<3 by decide),19,cq,mn,(Hr (λz=>[V.int cq,V.int z]) hmn),∅,λws lws nd nm ne wa G2 u2 hwa ewa=>?_];have u12:=u1\u2;have lMm:(M.map λx=>V.ref x.1).length=M.length:=HS _;have lMp:(M.map λx=>V.ref x.2.fa).length=M.length:=HS _;show#[wl,19,u12 _ _ ew,Rk2.lt_line' ∅,?_];have na:wa≠wl:=λz=>by rw[z,u1 _ _ ew] at hwa; cases hwa
     have na2:wa≠pl:=λz=>by rw[z,u1 _ _ ep] at hwa; cases hwa
     have ew3:upd G2 wl (.lst ((M.map λx=>V.ref x.1)++[V.ref wa])) wl=⇑(.lst ((M.map λx=>V.ref x.1)++[V.ref wa])):=aI;have ep3:upd G2 wl (.lst ((M.map λx=>V.ref x.1)++[V.ref wa])) pl=⇑(.lst (M.map λx=>V.ref x.2.fa)):=by rw[aM nwp.symm]; exact u12 _ _ ep
     have ea3:upd G2 wl (.lst ((M.map λx=>V.ref x.1)++[V.ref wa])) wa=⇑(.lst (ws.map V.str)):=by rw[aM na]; exact ewa
     have s4:aB H2 (upd G2 wl (.lst ((M.map λx=>V.ref x.1)++[V.ref wa]))):=(s3\u12).upd hwl;have sE3:aB (ers pl (ers wl G)) (ers pl (ers wl (upd G2 wl (.lst ((M.map λx=>V.ref x.1)++[V.ref wa]))))):=by rw[fj]; exact u12.ers.ers
     generalize upd G2 wl (.lst ((M.map λx=>V.ref x.1)++[V.ref wa]))=G3 at ew3 ep3 ea3 s4 sE3 ⊢;have F:Al H2 G3 _:=#[s4,hV.mono s4 FH.2]
     let#[m,hm,hm1]:=md (c4 / d2) ((ws.map V.str).length+1:Int) ∅;have lwm:(ws.map V.str).length=ws.length:=HS _;show#[5,cl,35,aE.of F.2.2.1,hc4,dU,λL2 hL2=>?_];have u4:=aB.new (o:=.lst [V.int 27,V.int 108,V.int 432]) hL2;show#[5,L2,35,aE.of aI,hd2,?_];generalize upd G3 L2 (.lst [V.int 27,V.int 108,V.int 432])=G4 at u4 ⊢;have hwi:aq ((M.map λx=>V.ref x.1)++[V.ref wa]) (i:Int)=⇑↥wa:=bv (by rw[IS ∅,lMm,lM,Nat.sub_self]; rfl);show#[19,#[∅,∅],21,wl,35,aE.of (u4 _ _ ew3),hwi,wa,5,.inl (aE.of (u4 _ _ ea3)),307,∅,?_];show fw 7 (V.int (c4 / d2%(((ws.map V.str).length:Nat)+1:Int))) _ _ _;rw[hm];have F:=F.mono u4;show#[5,.inl #[6,aE.of (u4 _ _ ep3)],21,ol,4,.str oi,7,aE.of F.2.1,bv (by rw[Hk,hoi]; rfl),21,wl,35,aE.of (u4 _ _ ew3),hwi,5,oi,wa,ws,m,rfl,aE.of (u4 _ _ ea3),(λz=>by rw[z] at lws; simp at lws; lia),∅,nd,nm,∅,λFn G5 u5 fA fN fM2 fP fL=>?_];have u45:=u4\u5;show#[pl,19,u45 _ _ ep3,Rk2.lt_line' ∅,(s4\u45).upd hplH,4,M++[(wa,Fn)],rfl,by rw[aM nwp,Hq]; exact u45 _ _ ew3,by rw[aI,Hq]; rfl,by rw[HZ,lM]; rfl,λj x hx=>?_];rw[iu,fj,iu];by_cases hj:j<M.length
     . rw[IV hj] at hx;exact(fM j x hx).mono (sE3\u45.ers.ers)
     . rw[IS ∅] at hx;have hz:j - M.length=0:=by
         have:=(HV.mp hx).1;simp at this
         lia
       rw[hz] at hx;cases hx;obtain rfl:j=i:=by lia
       have l5:=(u45 _ _ ew3)
       have p5:=(u45 _ _ ep3)
       show#[(by show ers pl (ers wl G5) wa=_; rw[ak na2,ak na,fM2]; exact u45 _ _ ea3),vC (xs:=M.map λx=>V.ref x.2.fa) (by rw[ak nwp.symm]; exact p5) (vC l5 fA),#[by rw[fM2]; exact nd,by rw[fM2]; lia,by rw[fN]; exact(onm oi hom).2,λw hw=>(nm w (by rw[<- fM2]; exact hw)).2,by rw[fM2]; exact fL,by show 0<Fn.rs.length; lia],by rw[hoi]; exact Hr some fN.symm,by show Fn.ps.length<=3; lia]
   rintro σ' H4 ⟨s4,v6,v7,M,rfl,e_wl,e_pl,lM,fM⟩;obtain⟨⟨w0,Fa⟩,⟨w1,Fb⟩,⟨w2,Fc⟩,rfl⟩:∃x y z,M=[x,y,z]:=by match M,lM with | [x,y,z],_=>exact⟨x,y,z,rfl⟩
   have A0:=(fM 0 _ rfl)*>(bO\bO);have A1:=(fM 1 _ rfl)*>(bO\bO);have A2:=(fM 2 _ rfl)*>(bO\bO);obtain rfl:o0=Fa.name:=Option.some.inj A0.nm;obtain rfl:o1=Fb.name:=Option.some.inj A1.nm;obtain rfl:o2=Fc.name:=Option.some.inj A2.nm;clear fM ew ep t1 t2 hwl hpl hplH nwp;have sn:=s4;have F:=F.mono sn; have F:=F.re; have F:=F.add e_wl; have F:=F.add e_pl
   intro nd hnd;have tn:=aB.new (o:=.dK []) hnd;show#[5,ol,35,aE.of (tn _ _ F.2.2.2.1),13,wl,35,aE.of (tn _ _ F.2.2.1),13,ol,35,aE.of (tn _ _ F.2.2.2.1),13,wl,35,aE.of (tn _ _ F.2.2.1),13,ol,35,aE.of (tn _ _ F.2.2.2.1),13,wl,35,aE.of (tn _ _ F.2.2.1),rfl,aI,[(Sum.inr Fa.name,↥w0),(Sum.inr Fb.name,↥w1),(Sum.inr Fc.name,↥w2)],rfl,(show(3:Nat)<=15 by decide),?_];rw[et];show#[λσ' G=>∃(al:L6) (wz:Str),σ'=[⇑↥a,⇑↥cl,⇑↥ol,⇑(.int (un:Int)),⇑↥wl,⇑↥pl,v6,v7,⇑↥nd,none,none,none,none,none,none,none,none,none,none,none]/\aB H4 G/\G nd=⇑(.dK (putK (eW [] [(Sum.inr Fa.name,V.ref w0),(Sum.inr Fb.name,↥w1),(Sum.inr Fc.name,↥w2)]) (Sum.inr "":aF) ↥al))/\G al=⇑(.lst ((F2.nms Fa++F2.nms Fb++F2.nms Fc++[wz]).map V.str)),?_,?_]
   . have F:=F.mono (aB.new (o:=.dK (eW [] [(Sum.inr Fa.name,V.ref w0),(Sum.inr Fb.name,↥w1),(Sum.inr Fc.name,↥w2)])) hnd);have end_:upd H4 nd (.dK (eW [] [(Sum.inr Fa.name,V.ref w0),(Sum.inr Fb.name,↥w1),(Sum.inr Fc.name,↥w2)])) nd=⇑_:=aI;generalize upd H4 nd (.dK (eW [] [(Sum.inr Fa.name,V.ref w0),(Sum.inr Fb.name,↥w1),(Sum.inr Fc.name,↥w2)]))=B0 at F end_ ⊢;have l0:(F2.nms Fa).length<=20:=A0.ok.n1;have l1:(F2.nms Fb).length<=20:=A1.ok.n1;have l2:(F2.nms Fc).length<=20:=A2.ok.n1;show#[5,wl,35,aE.of F.2.2.1,13,wl,35,aE.of F.2.2.1,rfl,w0,w1,(F2.nms Fa).map V.str,(F2.nms Fb).map V.str,7,(A0.mono F.1).w,(A1.mono F.1).w,(by rw[HS,HS]; exact fJ ∅),λq1 k=>?_];have k1:=aB.new (o:=.lst ((F2.nms Fa).map V.str++(F2.nms Fb).map V.str)) k;have F:=F.new (o:=.lst ((F2.nms Fa).map V.str++(F2.nms Fb).map V.str)) k; generalize upd B0 q1 _=B1 at F k1 ⊢;show#[5,wl,35,aE.of F.2.2.2.1,rfl,q1,w2,_,(F2.nms Fc).map V.str,7,F.2.1,(A2.mono F.1).w,(by rw[HZ,HS,HS,HS]; exact fJ ∅),λq2 k=>?_];have k2:=k1\(aB.new (o:=.lst ((F2.nms Fa).map V.str++(F2.nms Fb).map V.str++(F2.nms Fc).map V.str)) k);have F:=F.new (o:=.lst ((F2.nms Fa).map V.str++(F2.nms Fb).map V.str++(F2.nms Fc).map V.str)) k; generalize upd B1 q2 _=B2 at F k2 ⊢;show#[13,ol,rfl,#[_,aE.of F.2.2.2.2.2.1],λu hu=>iH (K:=K) (λi G v=>∃s:Str,v=.str s/\s.length<=1) (λ_ _ _ _ _ z=>z) (xs:=[Fa.name,Fb.name,Fc.name].map V.str) (show(3:Nat)<=1000000 by decide) (aE.of F.2.2.2.2.2.1) hu ?_ ?_]
     . rintro i x G R_ hx sG ⟨acc,eacc⟩ kk;let#[s,hs,rfl]:=IJ.mp (IA hx);show#[21,s,rfl,Hu (onm s hs).1 (fJ #[]),kk _ _ (aB.refl _) #[5,DM (one s hs)]]
     rintro G3 vs u3 e3 l3 t3;let#[ys,rfl,hy]:=nJ t3;have l3:ys.length=3:=by rw[HS] at l3; exact l3
     have jl:=Gk hy;have sl:∀l:List Str,(∀y∈l,y.length<=1)->(l.map (·.length)).sum<=l.length:=λl=>by
       induction l with
       | nil=>exact λ_=>HY _
       | cons x l ih =>
         intro h;have:=ih λy hy=>h y (Hv _ hy);have:=h x Hj;rw[IF,Kz,II]
         lia
     have sl:=sl ys hy;have F:=F.mono u3;have k3:=k2\u3;show#["",u,ys,7,aE.of e3,(by show _+ys.length * 0<=_; lia),19,(by show _+5<=_; exact fJ ∅),eu,λq4 k=>?_];generalize hwz:PySem.Txt.join "" ys++("zzzzz":Str)=wz;have k4:=k3\(aB.new (o:=.lst [V.str wz]) k);have F:=F.new (o:=.lst [V.str wz]) k; generalize upd G3 q4 _=B3 at F k4 ⊢;show#[q2,q4,19,F.2.2.1,F.2.1,(by rw[HZ,HZ,HS,HS,HS]; exact fJ (by show _+1<_; lia)),λal k=>?_];have k5:=k4\(aB.new (o:=.lst ((F2.nms Fa).map V.str++(F2.nms Fb).map V.str++(F2.nms Fc).map V.str++[V.str wz])) k);have F:=F.new (o:=.lst ((F2.nms Fa).map V.str++(F2.nms Fb).map V.str++(F2.nms Fc).map V.str++[V.str wz])) k; generalize upd B3 al _=B4 at F k5 ⊢;have ne:al≠nd:=λz=>by rw[z] at k; exact absurd (k4 _ _ end_) (by rw[k]; exact λz=>by cases z)
     show#[5,nd,5,ci.k (k:=(Sum.inr "":aF)) (k5 _ _ end_) (Rk2.lt_line' (J9 (zp _ _) (show(0+3:Nat)<1000000 by decide))),al,wz,rfl,F.1.upd hnd,aI,by rw[aM ne]; simpa using F.2.1]
   rintro σ' H5 ⟨al,wz,rfl,sn,e_nd,e_al⟩;have F:=F.mono sn; have A0:=A0.mono F.1; have A1:=A1.mono F.1; have A2:=A2.mono F.1; have F:=F.re; have F:=F.add e_nd; have F:=F.add e_al
   show#[5,cl,35,aE.of F.2.2.2.2.2.2.1,hc5,19,(show(0:Int)<61 by decide),77,cl,35,aE.of F.2.2.2.2.2.2.1,hc5,19,#[#[],#[]],19,(show(0:Int)<61 by decide),19,(by show 8<=sizeLine; decide),λbl k=>?_];have hbs:Bg.BxL [0,1,2,3,4,5,6+c5%61,67+c5 / 61%61]:=#[rfl,λb hb=>by
     have y1:=Bg.emod_bd' c5 61 #[];have y2:=Bg.emod_bd' (c5 / 61) 61 #[];simp only[Hh,ID,or_false] at hb
     lia]
   have F:=F.new (o:=.lst [V.int 0,V.int 1,V.int 2,V.int 3,V.int 4,V.int 5,V.int (6+c5%61),V.int (67+c5 / 61%61)]) k; generalize upd H5 bl _=B1 at F ⊢;have F:Al H5 B1 ((bl,.lst ([0,1,2,3,4,5,6+c5%61,67+c5 / 61%61].map V.int))::_):=F;generalize [0,1,2,3,4,5,6+c5%61,67+c5 / 61%61]=bs at F hbs;have p0:Fa.ps.length<=3:=A0.p;have p2:Fc.ps.length<=3:=A2.p;show#[λσ' G=>∃(ar:L6) (zs:List Int),σ'=[⇑↥a,⇑↥cl,⇑↥ol,⇑(.int (un:Int)),⇑↥wl,⇑↥pl,v6,v7,⇑↥nd,⇑↥bl,⇑↥ar,none,none,none,none,none,none,none,none,none]/\aB B1 G/\G ar=⇑(.lst (zs.map V.int))/\zs.length<=3/\∀z∈zs,0<=z/\z<K21.wide,?_,?_]
   . show#[5,pl,35,aE.of F.2.2.2.2.1,rfl,Fc.fa,35,(A2.mono F.1).f.fn,rfl,Fc.pa,5,.inr (A2.mono F.1).f.pr,5,by simp,(by rw[HS]; show((Fc.ps.length:Nat):Int)<_; lia),λar har=>(let Jv3:Nat->List V->Hp->Prop:=λi acc G=>aB B1 G/\G ar=⇑(.lst acc)/\∃zs:List Int,acc=zs.map V.int/\zs.length=i/\∀z∈zs,0<=z/\z<K21.wide; mx (lo:=0) (n:=(Fc.ps.map V.str).length) (by rw[HS]; lia) Jv3 #[aB.new har,aI,[],7,λz hz=>by cases hz] ?_ ?_ ?_)]
     . rintro i acc G hi ⟨s2,e2,zs,rfl,lz,bz⟩;show#[e2,by rw[HS,lz]; exact HY _]
     . rintro i acc G hi ⟨s2,e2,zs,rfl,lz,bz⟩;rw[HS] at hi;let#[c,hc]:=dm lc (6+i) ∅;rw[Io];show#[339,cl,35,aE.of (s2 _ _ F.2.2.2.2.2.2.2.1),(by rw[<- hc]; congr 1),c,rfl,λz z0 z1=>#[e2,s2.upd har,aI,zs++[z],?_,by rw[HZ,lz]; rfl,λy hy=>?_]]
       . rw[Hq];rfl
       . rcases IH.mp hy with hy|hy
         . exact bz y hy
         . cases IC.mp hy;show#[z0,z1]
     . rintro acc G ⟨sn,e_ar,zs,rfl,lz,bz⟩;show#[ar,zs,rfl,sn,e_ar,by rw[lz,HS]; exact p2,bz]
   rintro σ' H6 ⟨ar,zs,rfl,sn,e_ar,lz,bz⟩;have F:=F.mono sn; have A0:=A0.mono F.1; have A1:=A1.mono F.1; have A2:=A2.mono F.1; have F:=F.re; have F:=F.add e_ar
   show#[λσ' G=>∃(gl:L6) (gu:List V) (ts:List Rk2.Tr),σ'=[⇑↥a,⇑↥cl,⇑↥ol,⇑(.int (un:Int)),⇑↥wl,⇑↥pl,v6,v7,⇑↥nd,⇑↥bl,⇑↥ar,⇑↥gl,none,none,none,none,none,none,none,none]/\aB H6 G/\G gl=⇑(.lst gu)/\Rk2.Ps (Rk2.RAt G) gu ts/\(∀u∈ts,da u)/\ts.length=gu.length/\gu.length<=3,?_,?_]
   . show#[5,pl,35,aE.of F.2.2.2.2.2.1,rfl,Fa.fa,35,A0.f.fn,rfl,Fa.pa,5,.inr A0.f.pr,5,by simp,(by rw[HS]; show((Fa.ps.length:Nat):Int)<_; lia),λgl hgl=>kB (lo:=0) (n:=(Fa.ps.map V.str).length) (λi G v=>∃u,Rk2.RAt G u v/\Bg.TOk' 7 u) (λ_ _ _ _ z z227_=>by let#[u,z1,z2]:=z227_; show#[u,z1*>z,z2]) (by rw[HS]; lia) hgl ?_ ?_]
     . rintro i G R_ hi sG ⟨acc,eacc⟩ kk;rw[HS] at hi;let#[c,hc]:=dm lc (9+i) ∅;rw[Io];show#[339,cl,35,aE.of (sG _ _ F.2.2.2.2.2.2.2.2.1),(by rw[<- hc]; congr 1),5,c,bl,bs,rfl,aE.of (sG _ _ F.2.2.1),hbs,λtr v G2 sn r2 t2=>kk _ _ sn #[tr,pI (sn _ _ eacc) r2,t2]]
     . rintro G gu sn e_gl lgu tg;obtain⟨ts,hts,tsk,ltk⟩:∃ts:List Rk2.Tr,Rk2.Ps (Rk2.RAt G) gu ts/\(∀u∈ts,da u)/\ts.length=gu.length:=rh λi v hv=>by let#[u,z1,z2]:=tg i v hv;show#[u,z1*>bO,uL z2]
       show#[gl,gu,ts,rfl,sn,e_gl,hts,tsk,ltk,by rw[lgu,HS]; exact p0]
   rintro σ' H7 ⟨gl,gu,ts,rfl,sn,e_gl,hts,tsk,ltk,lgu⟩;have F:=F.mono sn; have A0:=A0.mono F.1; have A1:=A1.mono F.1; have A2:=A2.mono F.1; have F:=F.re; have F:=F.add e_gl
   show#[λσ' G=>∃(ma:L6) (v0 v1 v2 v3:V) (m0 m1 m2 m3:Cw.Mk),σ'=[⇑↥a,⇑↥cl,⇑↥ol,⇑(.int (un:Int)),⇑↥wl,⇑↥pl,v6,v7,⇑↥nd,⇑↥bl,⇑↥ar,⇑↥gl,⇑↥ma,none,none,none,none,none,none,none]/\aB H7 G/\G ma=⇑(.lst [v0,v1,v2,v3])/\dD K G m0 v0/\dD K G m1 v1/\dD K G m2 v2/\dD K G m3 v3/\MkOk [Fa,Fb,Fc] m0/\MkOk [Fa,Fb,Fc] m1/\MkOk [Fa,Fb,Fc] m2/\MkOk [Fa,Fb,Fc] m3,?_,?_]
   . show#[5,#[],#[],λma hma=>kB (lo:=0) (n:=4) (λi G v=>∃m,dD K G m v/\MkOk [Fa,Fb,Fc] m) (λ_ _ _ _ z z228_=>by let#[u,z1,z2]:=z228_; show#[u,z1*>z,z2]) #[] hma ?_ ?_]
     . rintro i G R_ hi sG ⟨acc,eacc⟩ kk;let#[c,hc]:=dm lc (12+i) ∅;obtain⟨fi,hfi,fi3⟩:∃fi:Nat,aq [V.int 2,V.int 2,V.int 2,V.int 0] (i:Int)=⇑(.int fi)/\fi<3:=by
         obtain rfl|rfl|rfl|rfl:i=0\/i=1\/i=2\/i=3:=by lia
         . show#[(2),rfl,#[]]
         . show#[(2),rfl,#[]]
         . show#[(2),rfl,#[]]
         . show#[(0),rfl,#[]]
       rw[Io];show#[339,cl,35,aE.of (sG _ _ F.2.2.2.2.2.2.2.2.2.1),(by rw[<- hc]; congr 1),5,gO,λL4 k4=>?_];have s4:=sG\(aB.new (o:=.lst [V.int 2,V.int 2,V.int 2,V.int 0]) k4);have e4:=(aB.new (o:=.lst [V.int 2,V.int 2,V.int 2,V.int 0]) k4)
       show#[5,L4,35,aE.of aI,hfi,?_];generalize upd G L4 (.lst [V.int 2,V.int 2,V.int 2,V.int 0])=G4 at s4 e4 ⊢;show#[5,c,pl,bl,[Fa,Fb,Fc],fi,bs,rfl,aE.of (s4 _ _ F.2.2.2.2.2.2.1),rfl,(λf hf=>?_),fi3,aE.of (s4 _ _ F.2.2.2.1),hbs,λm v G5 s5 m5 ok5 _=>kk _ _ (e4\s5) #[m,m5.er (s5 _ _ (e4 _ _ eacc)) (by rw[e4 _ _ eacc]; exact λz=>by cases z),ok5]];simp only[Hh,ID,or_false] at hf;rcases hf with rfl|rfl|rfl
       . show#[F2.FnAt.mono s4 A0.f,A0.ok]
       . show#[F2.FnAt.mono s4 A1.f,A1.ok]
       . show#[F2.FnAt.mono s4 A2.f,A2.ok]
     . rintro G vs sn e_ma lv tv;obtain⟨v0,v1,v2,v3,rfl⟩:∃x y z w,vs=[x,y,z,w]:=by match vs,lv with | [x,y,z,w],_=>exact⟨x,y,z,w,rfl⟩
       let#[m0,g0,ok0]:=tv 0 _ rfl;let#[m1,g1,ok1]:=tv 1 _ rfl;let#[m2,g2,ok2]:=tv 2 _ rfl;let#[m3,g3,ok3]:=tv 3 _ rfl;show#[ma,v0,v1,v2,v3,m0,m1,m2,m3,rfl,sn,e_ma,g0*>bO,g1*>bO,g2*>bO,g3*>bO,ok0,ok1,ok2,ok3]
   rintro σ' H8 ⟨ma,v0,v1,v2,v3,m0,m1,m2,m3,rfl,sn,e_ma,g0,g1,g2,g3,ok0,ok1,ok2,ok3⟩;have F:=F.mono sn; have A0:=A0.mono F.1; have A1:=A1.mono F.1; have A2:=A2.mono F.1; have hts:=Rk2.Ps.imp (λ_ _ z=>z*>F.1) hts; have F:=F.re; have F:=F.add e_ma
   show#[5,cl,35,aE.of F.2.2.2.2.2.2.2.2.2.2.1,hc16,c16,rfl,λfar far0 far1=>?_];let#[fr,rfl]:=Iv far0;show#[λσ' G=>∃(sp:L6) (us:List V),σ'=[⇑↥a,⇑↥cl,⇑↥ol,⇑(.int (un:Int)),⇑↥wl,⇑↥pl,v6,v7,⇑↥nd,⇑↥bl,⇑↥ar,⇑↥gl,⇑↥ma,⇑(.int (fr:Nat)),⇑↥sp,none,none,none,none,none]/\aB H8 G/\G sp=⇑(.lst us)/\Rk2.Ps (kK K G) us [#[[],.call Fa.name ts 1],#[[],.wait none 2],#[[],.back (.num fr)]],?_,?_]
   . show#[cO,λe0 k=>?_];have F:=F.new (o:=.lst []) k; generalize upd H8 e0 _=B2 at F ⊢;show#[5,ol,35,aE.of F.2.2.2.2.2.2.2.2.2.2.1,13,gl,5,.inl #[aE.of F.2.2.2.1,λtg k=>?_]];have F:=F.new (o:=.tup gu) k; generalize upd B2 tg _=B3 at F ⊢;show#[gO,λca k=>?_];have F:=F.new (o:=.tup [V.str "call",V.str Fa.name,V.ref tg,V.int 1]) k; generalize upd B3 ca _=B4 at F ⊢;show#[bL,λs0 k=>?_];have F:=F.new (o:=.tup [V.ref e0,V.ref ca]) k; generalize upd B4 s0 _=B5 at F ⊢;show#[cO,λe1 k=>?_];have F:=F.new (o:=.lst []) k; generalize upd B5 e1 _=B6 at F ⊢;show#[dU,λwa k=>?_];have F:=F.new (o:=.tup [V.str "wait",V.non,V.int 2]) k; generalize upd B6 wa _=B7 at F ⊢;show#[bL,λs1 k=>?_];have F:=F.new (o:=.tup [V.ref e1,V.ref wa]) k; generalize upd B7 s1 _=B8 at F ⊢;show#[cO,λe2 k=>?_];have F:=F.new (o:=.lst []) k; generalize upd B8 e2 _=B9 at F ⊢;show#[5,bL,λnf k=>?_];have F:=F.new (o:=.tup [V.str "num",V.int (fr:Nat)]) k; generalize upd B9 nf _=B10 at F ⊢;show#[bL,λba k=>?_];have F:=F.new (o:=.tup [V.str "back",V.ref nf]) k; generalize upd B10 ba _=B11 at F ⊢;show#[bL,λs2 k=>?_];have F:=F.new (o:=.tup [V.ref e2,V.ref ba]) k; generalize upd B11 s2 _=B12 at F ⊢;show#[dU,λsp k=>?_];have F:=F.new (o:=.lst [V.ref s0,V.ref s1,V.ref s2]) k; generalize upd B12 sp _=B13 at F ⊢;show#[sp,5,F.1,F.2.1,#[s0,e0,[],↥ca,rfl,aG.of F.2.2.2.2.2.2.2.2.2.1,aE.of F.2.2.2.2.2.2.2.2.2.2.2.2.1,trivial,ca,5,aG.of F.2.2.2.2.2.2.2.2.2.2.1,tg,gu,rfl,aG.of F.2.2.2.2.2.2.2.2.2.2.2.1,(Rk2.Ps.imp (λ_ _ z=>z*>F.1) hts)],#[s1,e1,[],↥wa,rfl,aG.of F.2.2.2.2.2.2.1,aE.of F.2.2.2.2.2.2.2.2.1,trivial,wa,5,aG.of F.2.2.2.2.2.2.2.1,rfl],#[s2,e2,[],↥ba,rfl,aG.of F.2.2.1,aE.of F.2.2.2.2.2.1,trivial,ba,5,aG.of F.2.2.2.1,↥nf,rfl,nf,rfl,F.2.2.2.2.1],trivial]
   rintro σ' H9 ⟨sp,us,rfl,sn,e_sp,hsp⟩;have F:=F.mono sn; have A0:=A0.mono F.1; have A1:=A1.mono F.1; have A2:=A2.mono F.1; have hts:=Rk2.Ps.imp (λ_ _ z=>z*>F.1) hts; have g0:=g0*>F.1; have g1:=g1*>F.1; have g2:=g2*>F.1; have g3:=g3*>F.1; have F:=F.re; have F:=F.add e_sp
   show#[λσ' G=>∃(co:L6),σ'=[⇑↥a,⇑↥cl,⇑↥ol,⇑(.int (un:Int)),⇑↥wl,⇑↥pl,v6,v7,⇑↥nd,⇑↥bl,⇑↥ar,⇑↥gl,⇑↥ma,⇑(.int (fr:Nat)),⇑↥sp,⇑↥co,none,none,none,none]/\aB H9 G/\jB K G ↥co [(Fa.name,[#[[],.back (.num 1)]]),(Fb.name,[#[[],.back (.num 2)]]),(Fc.name,[#[[],.call Fa.name ts 1],#[[],.wait none 2],#[[],.back (.num fr)]])],?_,?_]
   . show#[5,ol,35,aE.of F.2.2.2.2.2.2.2.2.2.2.1,rfl,cO,λea k=>?_];have F:=F.new (o:=.lst []) k; generalize upd H9 ea _=B2 at F ⊢;show#[bL,λna k=>?_];have F:=F.new (o:=.tup [V.str "num",V.int 1]) k; generalize upd B2 na _=B3 at F ⊢;show#[bL,λba k=>?_];have F:=F.new (o:=.tup [V.str "back",V.ref na]) k; generalize upd B3 ba _=B4 at F ⊢;show#[bL,λsa k=>?_];have F:=F.new (o:=.tup [V.ref ea,V.ref ba]) k; generalize upd B4 sa _=B5 at F ⊢;show#[eu,λla k=>?_];have F:=F.new (o:=.lst [V.ref sa]) k; generalize upd B5 la _=B6 at F ⊢;show#[bL,λka k=>?_];have F:=F.new (o:=.tup [V.str Fa.name,V.ref la]) k; generalize upd B6 ka _=B7 at F ⊢;show#[5,ol,35,aE.of F.2.2.2.2.2.2.2.2.2.2.2.2.2.2.2.2.1,rfl,cO,λeb k=>?_];have F:=F.new (o:=.lst []) k; generalize upd B7 eb _=B8 at F ⊢;show#[bL,λnb k=>?_];have F:=F.new (o:=.tup [V.str "num",V.int 2]) k; generalize upd B8 nb _=B9 at F ⊢;show#[bL,λbb k=>?_];have F:=F.new (o:=.tup [V.str "back",V.ref nb]) k; generalize upd B9 bb _=B10 at F ⊢;show#[bL,λsb k=>?_];have F:=F.new (o:=.tup [V.ref eb,V.ref bb]) k; generalize upd B10 sb _=B11 at F ⊢;show#[eu,λlb k=>?_];have F:=F.new (o:=.lst [V.ref sb]) k; generalize upd B11 lb _=B12 at F ⊢;show#[bL,λkb k=>?_];have F:=F.new (o:=.tup [V.str Fb.name,V.ref lb]) k; generalize upd B12 kb _=B13 at F ⊢;show#[5,ol,35,aE.of F.2.2.2.2.2.2.2.2.2.2.2.2.2.2.2.2.2.2.2.2.2.2.1,13,bL,λkc k=>?_];have F:=F.new (o:=.tup [V.str Fc.name,V.ref sp]) k; generalize upd B13 kc _=B14 at F ⊢;show#[dU,λco k=>?_];have F:=F.new (o:=.lst [V.ref ka,V.ref kb,V.ref kc]) k; generalize upd B14 co _=B15 at F ⊢;show#[co,rfl,F.1,co,5,aE.of F.2.1,#[ka,la,5,aG.of F.2.2.2.2.2.2.2.2.2.1,aE.of F.2.2.2.2.2.2.2.2.2.2.1,#[sa,ea,[],↥ba,rfl,aG.of F.2.2.2.2.2.2.2.2.2.2.2.1,aE.of F.2.2.2.2.2.2.2.2.2.2.2.2.2.2.1,trivial,ba,5,aG.of F.2.2.2.2.2.2.2.2.2.2.2.2.1,↥na,rfl,na,rfl,F.2.2.2.2.2.2.2.2.2.2.2.2.2.1],trivial],#[kb,lb,5,aG.of F.2.2.2.1,aE.of F.2.2.2.2.1,#[sb,eb,[],↥bb,rfl,aG.of F.2.2.2.2.2.1,aE.of F.2.2.2.2.2.2.2.2.1,trivial,bb,5,aG.of F.2.2.2.2.2.2.1,↥nb,rfl,nb,rfl,F.2.2.2.2.2.2.2.1],trivial],#[kc,sp,us,rfl,aG.of F.2.2.1,aE.of F.2.2.2.2.2.2.2.2.2.2.2.2.2.2.2.1,(Rk2.Ps.imp (λ_ _ z=>z*>F.1) hsp)],trivial]
   rintro σ' H10 ⟨co,rfl,sn,hco⟩;have F:=F.mono sn; have A0:=A0.mono F.1; have A1:=A1.mono F.1; have A2:=A2.mono F.1; have hts:=Rk2.Ps.imp (λ_ _ z=>z*>F.1) hts; have g0:=g0*>F.1; have g1:=g1*>F.1; have g2:=g2*>F.1; have g3:=g3*>F.1; have hsp:=Rk2.Ps.imp (λ_ _ z=>z*>F.1) hsp; have F:=F.re
   show#[λσ' G=>∃(tb:L6),σ'=[⇑↥a,⇑↥cl,⇑↥ol,⇑(.int (un:Int)),⇑↥wl,⇑↥pl,v6,v7,⇑↥nd,⇑↥bl,⇑↥ar,⇑↥gl,⇑↥ma,⇑(.int (fr:Nat)),⇑↥sp,⇑↥co,⇑↥tb,none,none,none]/\aB H10 G/\i' K G ↥tb [(Fa.name,[m3]),(Fb.name,[m1]),(Fc.name,[m0,m1,m2])],?_,?_]
   . show#[5,ol,35,aE.of F.2.2.2.2.2.2.2.2.2.2.1,53,ma,5,aE.of F.2.2.1,λxa k=>?_];rw[show dM [v0,v1,v2,v3] (some 3) none=[v3] from rfl];have F:=F.new (o:=.lst [v3]) k; generalize upd H10 xa _=B2 at F ⊢;show#[bL,λya k=>?_];have F:=F.new (o:=.tup [V.str Fa.name,V.ref xa]) k; generalize upd B2 ya _=B3 at F ⊢;show#[5,ol,35,aE.of F.2.2.2.2.2.2.2.2.2.2.2.2.1,213,ma,5,aE.of F.2.2.2.2.1,λxb k=>?_];rw[show dM [v0,v1,v2,v3] (some 1) (some 2)=[v1] from rfl];have F:=F.new (o:=.lst [v1]) k; generalize upd B3 xb _=B4 at F ⊢;show#[bL,λyb k=>?_];have F:=F.new (o:=.tup [V.str Fb.name,V.ref xb]) k; generalize upd B4 yb _=B5 at F ⊢;show#[5,ol,35,aE.of F.2.2.2.2.2.2.2.2.2.2.2.2.2.2.1,53,ma,5,aE.of F.2.2.2.2.2.2.1,λxc k=>?_];rw[show dM [v0,v1,v2,v3] none (some 3)=[v0,v1,v2] from rfl];have F:=F.new (o:=.lst [v0,v1,v2]) k; generalize upd B5 xc _=B6 at F ⊢;show#[bL,λyc k=>?_];have F:=F.new (o:=.tup [V.str Fc.name,V.ref xc]) k; generalize upd B6 yc _=B7 at F ⊢;show#[dU,λtb k=>?_];have F:=F.new (o:=.lst [V.ref ya,V.ref yb,V.ref yc]) k; generalize upd B7 tb _=B8 at F ⊢;show#[tb,rfl,F.1,tb,5,aE.of F.2.1,#[ya,xa,5,aG.of F.2.2.2.2.2.2.1,aE.of F.2.2.2.2.2.2.2.1,(g3*>F.1),trivial],#[yb,xb,5,aG.of F.2.2.2.2.1,aE.of F.2.2.2.2.2.1,(g1*>F.1),trivial],#[yc,xc,5,aG.of F.2.2.1,aE.of F.2.2.2.1,(g0*>F.1),(g1*>F.1),(g2*>F.1),trivial],trivial]
   rintro σ' H11 ⟨tb,rfl,sn,htb⟩;have F:=F.mono sn; have A0:=A0.mono F.1; have A1:=A1.mono F.1; have A2:=A2.mono F.1; have hts:=Rk2.Ps.imp (λ_ _ z=>z*>F.1) hts; have g0:=g0*>F.1; have g1:=g1*>F.1; have g2:=g2*>F.1; have g3:=g3*>F.1; have hsp:=Rk2.Ps.imp (λ_ _ z=>z*>F.1) hsp; have hco:=hco*>F.1; have F:=F.re
   show#[341,λx dx hx hdx ne=>?_];have sE:=cy ((aB.new (o:=.own x) hdx)\(aB.new (o:=.ins t.bJ dx []) (by rw[aM (Ne.symm ne)]; exact hx))) hx;have hpr:aE K H11 pl ([Fa,Fb,Fc].map λf=>V.ref f.fa):=aE.of F.2.2.2.2.2.2.2.2.1;have hfn:∀f∈[Fa,Fb,Fc],F2.FnAt K H11 f/\FnOk f:=λf hf=>by
     simp only[Hh,ID,or_false] at hf;rcases hf with rfl|rfl|rfl
     . show#[A0.f,A0.ok]
     . show#[A1.f,A1.ok]
     . show#[A2.f,A2.ok]
   have nd3:([Fa.name,Fb.name,Fc.name]:List Str).Nodup:=ond;have mv:∀m∈[m0,m1,m2,m3],m.vs.length<=1000/\∀p∈m.vs,p.length<=1000:=λm hm=>by
     have ok:MkOk [Fa,Fb,Fc] m:=by simp only[Hh,ID,or_false] at hm;rcases hm with rfl|rfl|rfl|rfl <;> assumption
     show#[by rw[ok.p.len]; exact Hu ok.l3 #[],λp hp=>?_];let#[k,hk]:=JU.mp hp;obtain⟨G,hG,-,e,-⟩:=ok.p.at_ k _ p (HU (by rw[<- ok.p.len]; exact(HV.mp hk).1)) hk;rw[e];exact Hu (hfn G hG).2.n1 #[]
   have har:aE K H11 ar (zs.map V.int):=aE.of F.2.2.2.2.1;have hdv:=oy bz;show#[x,dx,pl,ar,↥co,↥tb,[Fa,Fb,Fc],Fc,4,zs.map V.int,rfl,aI,sE.seq hpr,0x8,(show(3:Nat)<=12 by decide),(λf hf=>F2.FnAt.mono sE (hfn f hf).1),nd3,rfl,hco*>sE,nd3,(show(3:Nat)<=100 by decide),(λc hc=>?_),htb*>sE,nd3,(show(3:Nat)<=100 by decide),(λc hc=>?_),sE.seq har,(by rw[HS]; lia),λw wt fa fdx fbx Hb H12 ew sb hC D=>#[rfl,?_]]
   . simp only[Hh,ID,or_false] at hc;rcases hc with rfl|rfl|rfl
     . show#[(show(1:Nat)<=1000 by decide),λs hs=>by simp only[Hh,ID,or_false] at hs;rcases hs with rfl;exact Hw _]
     . show#[(show(1:Nat)<=1000 by decide),λs hs=>by simp only[Hh,ID,or_false] at hs;rcases hs with rfl;exact Hw _]
     . show#[(show(3:Nat)<=1000 by decide),λs hs=>by simp only[Hh,ID,or_false] at hs;rcases hs with rfl|rfl|rfl <;> exact Hw _]
   . simp only[Hh,ID,or_false] at hc;rcases hc with rfl|rfl|rfl
     . show#[(show(1:Nat)<=1000 by decide),λm hm=>by cases IC.mp hm; exact mv m3 0x8]
     . show#[(show(1:Nat)<=1000 by decide),λm hm=>by cases IC.mp hm; exact mv m1 0x8]
     . show#[(show(3:Nat)<=1000 by decide),λm hm=>by simp only[Hh,ID,or_false] at hm;rcases hm with rfl|rfl|rfl <;> exact mv _ 0x8]
   subst ew;have sH:=sE\sb;have F:=F.mono sH;have N:NmD K Hb nd al _ [Fa,Fb,Fc] _:=#[F.2.2.2.2.2.2.2.1,DF nd3 (λs hs=>one s hs) (A0.mono F.1).w (A1.mono F.1).w (A2.mono F.1).w,by rw[cf,He rfl],aE.of F.2.2.2.2.2.2.1,by simp,by have l0:(F2.nms Fa).length<=20:=(A0.mono F.1).ok.n1; have l1:(F2.nms Fb).length<=20:=(A1.mono F.1).ok.n1; have l2:(F2.nms Fc).length<=20:=(A2.mono F.1).ok.n1; simp; lia]
   have hfk:∀f∈[Fa,Fb,Fc],FnOk f:=λf hf=>(hfn f hf).2;have mM:∀cs ms ws kn,MlA K Hb ⟨Fa.name,Fc.name,[Fa,Fb,Fc],m0,m1,m2,m3,ts,fr,cs,ms,ws,kn⟩ ma:=λ_ _ _ _=>#[v0,v1,v2,v3,aE.of F.2.2.1,(g0*>F.1),(g1*>F.1),(g2*>F.1),(g3*>F.1)]
   have xcl:aE K Hb _ _:=aE.of F.2.2.2.2.2.2.2.2.2.2.2.1;have xbl:aE K Hb _ _:=aE.of F.2.2.2.2.2.1;have xma:aE K Hb _ _:=aE.of F.2.2.1;have xar:aE K Hb _ _:=aE.of F.2.2.2.2.1;have xgl:aE K Hb _ _:=aE.of F.2.2.2.1;have xts:Rk2.Ps (Rk2.RAt Hb) gu ts:=(Rk2.Ps.imp (λ_ _ z=>z*>F.1) hts)
   have x0:dD K Hb m0 v0:=(g0*>F.1)
   obtain⟨b18,hb18⟩:∃b,aq (bs.map V.int) (c18%8)=⇑(.int b):=by let#[b,_,h2,_]:=Bg.bx_at hbs c18;rw[HS,hbs.1] at h2;show#[b,h2]
   obtain⟨b20,hb20⟩:∃b,aq (bs.map V.int) (c20%8)=⇑(.int b):=by let#[b,_,h2,_]:=Bg.bx_at hbs c20;rw[HS,hbs.1] at h2;show#[b,h2]
   clear F A0 A1 A2 g0 g1 g2 g3 hco htb hsp hpr har hfn mv sE sb sH hx hdx hnd;intro d hd;have hdb:=hC.b.free hd;show#[5,ar,5,.inl ((hC.b\(aB.new hd)).seq xar),5,by simp,(by rw[HS]; lia),(let Jv4:Nat->St->Hp->Prop:=λi σ G=>G=upd H12 d (.dK (bf ((zs.map V.int).take i)))/\∃v,σ=[⇑↥a,⇑↥cl,⇑↥ol,⇑(.int (un:Int)),⇑↥wl,⇑↥pl,v,v7,⇑↥nd,⇑↥bl,⇑↥ar,⇑↥gl,⇑↥ma,⇑(.int (fr:Nat)),⇑↥sp,⇑↥co,⇑↥tb,⇑↥w.a,⇑↥d,none]; fH (lo:=0) (n:=(zs.map V.int).length) Jv4 #[13] ?_ ?_)]
   . rintro i σ G hi ⟨rfl,v,rfl⟩;have s2:=aB.new (o:=.dK (bf ((zs.map V.int).take i))) hd;obtain⟨y,hy⟩:∃y,(zs.map V.int)[i]?=⇑y:=#[_,HU hi]
     have e9:=(oM (ys:=zs.map V.int) (λy hy=>by let#[z,hz,rfl]:=IJ.mp hy; show#[z,rfl,bz z hz]) i ∅).2;rw[HS] at hi;rw[Io];show#[21,ar,35,(hC.b\s2).seq xar,bv hy,21,d,5,ci.k (k:=(Sum.inl (i:Int):aF)) aI (Rk2.lt_line' ∅),by rw[et,qQ hy],5]
   rintro σ G ⟨rfl,v,rfl⟩;rw[Ic (HY _)];generalize bf (zs.map V.int)=k0 at hC hdv ⊢;have dv:=hdv.1;have ln:=hdv.2;obtain⟨Hc,W⟩:∃Hc,Wm t Hb Hc (upd H12 d (.dK k0)) w wt [((⟨fa,fdx,fbx,Fc.name,0,k0,0⟩:Fm),m0,d)] .non []:=#[_,Own.grow hC (aB.new hd),Wk.gr_same hC.b,λy hy=>by cases IC.mp hy; exact Wk.gr_new hd aI,λy hy=>by cases IC.mp hy; exact hdb,by simp]
   generalize upd H12 d (.dK k0)=H13 at W ⊢;clear hC hd;have b13:=W.b;show#[21,ma,35,b13.seq xma,13,bL,λp1 ni1=>#[eu,λp2 ni2=>?_]];have j1:=aB.new (o:=.tup [v0,↥d]) ni1;have q1:=aG.of (K:=K) (aI (H:=H13) (a:=p1) (o:=.tup [v0,↥d]));generalize upd H13 p1 (.tup [v0,↥d])=G1 at j1 q1 ni2 ⊢;have j2:=aB.new (o:=.lst [↥p1]) ni2;have q2:=aE.of (K:=K) (aI (H:=G1) (a:=p2) (o:=.lst [↥p1]));generalize upd G1 p2 (.lst [↥p1])=G2 at j2 q2  ⊢;have j:=j1\j2;have WG:=W.keep j;have kG:=b13\j;show#[339,w,wt,[],[Fa,Fb,Fc],8,[((#[fa,fdx,fbx,Fc.name,(0),k0,(0)]:Fm),m0,d)],nd,al,p2,4,[↥p1],1+fr,rfl,#[8,WG.c,D.mono WG.s,by simp,by simp],lh (f:=(#[fa,fdx,fbx,Fc.name,(0),k0,(0)]:Fm)) hfk #[[m0,m1,m2],by simp,rfl] ok0 dv (by show k0.length<=_; lia) rfl,N.mono kG,q2,#[#[p1,v0,rfl,j2<*q1,x0*>kG,WG.c.b _ _ (WG.at_ _ Hj)],trivial],λH14 s14=>#[5,iN ?_]];have W14:=WG.keep s14;clear j1 j2 j q1 q2 WG kG s14 W b13 ni1 ni2;have b14:=W14.b;show#[21,ma,35,b14.seq xma,13,bL,λp1 ni1=>#[eu,λp2 ni2=>?_]];have j1:=aB.new (o:=.tup [v0,↥d]) ni1;have q1:=aG.of (K:=K) (aI (H:=H14) (a:=p1) (o:=.tup [v0,↥d]));generalize upd H14 p1 (.tup [v0,↥d])=G1 at j1 q1 ni2 ⊢;have j2:=aB.new (o:=.lst [↥p1]) ni2;have q2:=aE.of (K:=K) (aI (H:=G1) (a:=p2) (o:=.lst [↥p1]));generalize upd G1 p2 (.lst [↥p1])=G2 at j2 q2  ⊢;have j:=j1\j2;have kG:=b14\j;have W15:=W14.grow j;have sX:aB Hb (Wk.gr Hb H14 G2):=Wk.gr_same b14;have q1':aG K (Wk.gr Hb H14 G2) p1 [v0,↥d]:=qJ ni1 (j2<*q1);have q2':aE K (Wk.gr Hb H14 G2) p2 [↥p1]:=ot (j1.free ni2) q2;generalize Wk.gr Hb H14 G2=Hx at W15 sX q1' q2';show#[5,cl,35,kG.seq xcl,hc17,21,cl,35,kG.seq xcl,hc18,19,(show(0:Int)<8 by decide),bl,35,kG.seq xbl,hb18,5,cl,35,kG.seq xcl,hc19,c19,rfl,λz z0 z1=>?_];show#[w,wt,[],.non,Hx,_,[((#[fa,fdx,fbx,Fc.name,(0),k0,(0)]:Fm),m0,d)],[Fa,Fb,Fc],4,p2,[↥p1],c17,b18,z,rfl,W15,D.mono sX,Hw _,lh (f:=(#[fa,fdx,fbx,Fc.name,(0),k0,(0)]:Fm)) hfk #[[m0,m1,m2],by simp,rfl] ok0 dv (by show k0.length<=_; lia) rfl,q2',#[#[p1,v0,rfl,q1',x0*>sX],trivial],by simp,λA0 y0 B0 Hb16 H16 eL W16=>#[5,iN ?_]];clear W15 q1' q2' j1 j2 j q1 q2 kG W14 b14 ni1 ni2;obtain⟨k1,W16,dv1,ln1⟩:∃k1,Wm t Hx Hb16 H16 w wt [((⟨fa,fdx,fbx,Fc.name,0,k1,0⟩:Fm),m0,d)] .non []/\Rk2.DV k1/\k1.length<=100:=by
     cases A0 with
     | nil =>
       cases eL;show#[_,W16,Rk2.DV_put dv z0 z1,?_];have:=Rk2.putK_len k0 (Sum.inl b18:aF) (.int z);exact Hu this ∅
     | cons y A0 =>
       have:=Hr List.length eL;simp at this
   have k16:=sX\W16.b;show#[341,cl,35,k16.seq xcl,hc20,19,(show(0:Int)<8 by decide),bl,35,k16.seq xbl,hb20,5,cl,35,k16.seq xcl,hc21,5,cl,35,k16.seq xcl,hc22,c22,rfl,λz2 z20 z21=>#[(by show 5<=sizeLine; decide),λmo ni=>?_]];have j1:=aB.new (o:=.lst [.int (fr:Nat),↥gl,.int b20,.int c21,.int z2]) ni;have q1:=aE.of (K:=K) (aI (H:=H16) (a:=mo) (o:=.lst [.int (fr:Nat),↥gl,.int b20,.int c21,.int z2]));generalize upd H16 mo (.lst [.int (fr:Nat),↥gl,.int b20,.int c21,.int z2])=G1 at j1 q1  ⊢;have W17:=W16.grow j1;have sY:aB Hx (Wk.gr Hx H16 G1):=Wk.gr_same W16.b;have q1:aE K (Wk.gr Hx H16 G1) mo _:=ot ni q1;have sZ:=sX\sY;generalize Wk.gr Hx H16 G1=Hy at W17 sY q1 sZ;have lgu2:ts.length<=20:=by lia
   show#[1365,w,wt,Hy,4,#[Fa.name,Fc.name,[Fa,Fb,Fc],m0,m1,m2,m3,ts,fr,16],nd,al,ma,d,mo,gl,gu,b20,c21,z2,rfl,W17,D.mono sZ,N.mono sZ,?_,q1,sZ.seq xgl,Rk2.Ps.imp (λ_ _ z=>z*>sZ) xts,z20,z21,#[hfk,ok0,ok1,ok2,ok3,lgu2,tsk,far1,#[_,Hv _ (Hv _ Hj),15],#[_,Hj,rfl],#[[m0,m1,m2],by simp,15],#[[m3],by simp,rfl],15,dv1,ln1],q];let#[u0,u1,u2,u3,h0,h1,h2,h3,h4]:=mM _ _ _ _;show#[u0,u1,u2,u3,sZ.seq h0,h1*>sZ,h2*>sZ,h3*>sZ,h4*>sZ]
end
end K38
namespace K38
open PySem L2
structure Fv where
 (oc kV dc pm cd ct:Value)
 (od an:Option Addr)
 sl:Array (Option Value)
noncomputable abbrev Fv.fn (v:Fv) (n q:Str) (s:Stmt):=W.fnOf n q (dB s) (aP s) (aS s) .none v.kV v.dc v.pm v.an v.cd v.ct
abbrev FL (K:L7) (f:L6) (v:Fv) (n q:Str) (s:Stmt):Prop:=K.lookup f=⇑#[v.oc,v.od,.func (v.fn n q s),v.sl]/\W.codeIn K v.cd q=true/\W.keepIn K ↥f=true
def fl_mk {K:L7} {f:L6} {n q:Str} {s:Stmt} {oc kV dc pm cd ct:K'} {od an:Hl L6} {sl:Array (Hl K')} (l:K.lookup f=⇑#[oc,od,.func (W.fnOf n q (dB s) (aP s) (aS s) .none kV dc pm an cd ct),sl]) (c:W.codeIn K cd q=true) (k:W.keepIn K ↥f=true):FL K f #[oc,kV,dc,pm,cd,ct,od,an,sl] n q s:=#[l,c,k]
set_option maxHeartbeats 4000000 in
def txt_mk {K:L7} {h:Heap} {mg:Str->Hl K'} (X:K.In h) (G:h.Ns mainGlobals mg)
   {C_Flows:L6} (aC_Flows:W.nsIn K mainGlobals "Flows"=⇑⇑↥C_Flows) (pg_Flows:W.plainGet K C_Flows Str.empty=true) (hd_Flows:W.hasDictIn K C_Flows=true) (po_Flows:W.plainOver K C_Flows=true) (sa_Flows:W.findIn K ↥C_Flows "__setattr__"=⇑⇑(.builtin "object.__setattr__")) (mk_Flows:W.makesIn K C_Flows=true) (kc_Flows:W.keepIn K ↥C_Flows=true)
   (jd:W.findIn K ↥C_Flows "last"=⇑none)
   (je:W.findIn K ↥C_Flows "number_of"=⇑none)
   (jc:W.findIn K ↥C_Flows "folded_of"=⇑none)
   (jf:W.findIn K ↥C_Flows "params_of"=⇑none)
   (jg:W.findIn K ↥C_Flows "rows_of"=⇑none)
   (ik:W.findIn K ↥C_Flows "names_in"=⇑none)
   (jh:W.findIn K ↥C_Flows "ways_in"=⇑none)
   {C_Walker:L6} (aC_Walker:W.nsIn K mainGlobals "Walker"=⇑⇑↥C_Walker) (pg_Walker:W.plainGet K C_Walker Str.empty=true) (hd_Walker:W.hasDictIn K C_Walker=true) (po_Walker:W.plainOver K C_Walker=true) (sa_Walker:W.findIn K ↥C_Walker "__setattr__"=⇑⇑(.builtin "object.__setattr__")) (mk_Walker:W.makesIn K C_Walker=true) (kc_Walker:W.keepIn K ↥C_Walker=true)
   {C_CodeWalker:L6} (aC_CodeWalker:W.nsIn K mainGlobals "CodeWalker"=⇑⇑↥C_CodeWalker) (pg_CodeWalker:W.plainGet K C_CodeWalker Str.empty=true) (hd_CodeWalker:W.hasDictIn K C_CodeWalker=true) (po_CodeWalker:W.plainOver K C_CodeWalker=true) (sa_CodeWalker:W.findIn K ↥C_CodeWalker "__setattr__"=⇑⇑(.builtin "object.__setattr__")) (mk_CodeWalker:W.makesIn K C_CodeWalker=true) (kc_CodeWalker:W.keepIn K ↥C_CodeWalker=true)
   (ii:W.findIn K ↥C_CodeWalker "flows"=⇑none)
   (eI:W.findIn K ↥C_CodeWalker "stack"=⇑none)
   (ij:W.findIn K ↥C_CodeWalker "outcome"=⇑none)
   (lg:W.findIn K ↥C_CodeWalker "sendings"=⇑none)
   (lZ:W.findIn K ↥C_CodeWalker "contents"=⇑none)
   (le:W.findIn K ↥C_CodeWalker "records"=⇑none)
   (jb:W.findIn K ↥C_CodeWalker "spots_of"=⇑none)
   (ja:W.findIn K ↥C_CodeWalker "marks_of"=⇑none)
   (fT:W.findIn K ↥C_CodeWalker "waiting"=⇑none)
   {C_CodeFrame:L6} (aC_CodeFrame:W.nsIn K mainGlobals "CodeFrame"=⇑⇑↥C_CodeFrame) (pg_CodeFrame:W.plainGet K C_CodeFrame Str.empty=true) (hd_CodeFrame:W.hasDictIn K C_CodeFrame=true) (po_CodeFrame:W.plainOver K C_CodeFrame=true) (sa_CodeFrame:W.findIn K ↥C_CodeFrame "__setattr__"=⇑⇑(.builtin "object.__setattr__")) (mk_CodeFrame:W.makesIn K C_CodeFrame=true) (kc_CodeFrame:W.keepIn K ↥C_CodeFrame=true)
   (ig:W.findIn K ↥C_CodeFrame "function"=⇑none)
   (gY:W.findIn K ↥C_CodeFrame "spot"=⇑none)
   (gy:W.findIn K ↥C_CodeFrame "boxes"=⇑none)
   (eX:W.findIn K ↥C_CodeFrame "first"=⇑none)
   {X_gE NN_gE:L6} {nm_gE qq_gE:Str} {bs_gE bm_gE:List K'} {sn_gE:List Str} {sub_gE:List K'} {ab_gE:Bool} {col_gE:Hl Bool} {dd_gE:Hl L6} {k0_gE k1_gE k2_gE k3_gE k5_gE:Hl K'}
   (xa_gE:W.nsIn K mainGlobals "GlassError"=⇑⇑↥X_gE) (xl_gE:K.lookup X_gE=⇑(excClassObj nm_gE qq_gE X_gE NN_gE bs_gE bm_gE true sn_gE sub_gE ab_gE col_gE dd_gE k0_gE k1_gE k2_gE k3_gE k5_gE "ValueError.__new__")) (xv_gE:Ex.veTail bm_gE=true) (xk_gE:W.keepIn K ↥X_gE=true) (xs_gE:W.findIn K ↥X_gE "__setattr__"=⇑⇑(.builtin "object.__setattr__")) (xg_gE:W.findIn K ↥X_gE "__getattribute__"=⇑⇑(.builtin "BaseException.__getattribute__")) (xt_gE:W.findIn K ↥X_gE "__getattr__"=⇑none) (xc_gE:W.findIn K ↥X_gE "__class__"=⇑⇑(.builtin "object.__class__"))
   {X_nN NN_nN:L6} {nm_nN qq_nN:Str} {bs_nN bm_nN:List K'} {sn_nN:List Str} {sub_nN:List K'} {ab_nN:Bool} {col_nN:Hl Bool} {dd_nN:Hl L6} {k0_nN k1_nN k2_nN k3_nN k5_nN:Hl K'}
   (xa_nN:W.nsIn K mainGlobals "NoName"=⇑⇑↥X_nN) (xl_nN:K.lookup X_nN=⇑(excClassObj nm_nN qq_nN X_nN NN_nN bs_nN bm_nN true sn_nN sub_nN ab_nN col_nN dd_nN k0_nN k1_nN k2_nN k3_nN k5_nN "ValueError.__new__")) (xv_nN:Ex.veTail bm_nN=true) (xk_nN:W.keepIn K ↥X_nN=true) (xs_nN:W.findIn K ↥X_nN "__setattr__"=⇑⇑(.builtin "object.__setattr__")) (xg_nN:W.findIn K ↥X_nN "__getattribute__"=⇑⇑(.builtin "BaseException.__getattribute__")) (xt_nN:W.findIn K ↥X_nN "__getattr__"=⇑none) (xc_nN:W.findIn K ↥X_nN "__class__"=⇑⇑(.builtin "object.__class__"))
   {X_Ended NN_Ended:L6} {nm_Ended qq_Ended:Str} {bs_Ended bm_Ended:List K'} {sn_Ended:List Str} {sub_Ended:List K'} {ab_Ended:Bool} {col_Ended:Hl Bool} {dd_Ended:Hl L6} {k0_Ended k1_Ended k2_Ended k3_Ended k5_Ended:Hl K'}
   (xa_Ended:W.nsIn K mainGlobals "Ended"=⇑⇑↥X_Ended) (xl_Ended:K.lookup X_Ended=⇑(excClassObj nm_Ended qq_Ended X_Ended NN_Ended bs_Ended bm_Ended true sn_Ended sub_Ended ab_Ended col_Ended dd_Ended k0_Ended k1_Ended k2_Ended k3_Ended k5_Ended "ValueError.__new__")) (xv_Ended:Ex.veTail bm_Ended=true) (xk_Ended:W.keepIn K ↥X_Ended=true) (xs_Ended:W.findIn K ↥X_Ended "__setattr__"=⇑⇑(.builtin "object.__setattr__")) (xg_Ended:W.findIn K ↥X_Ended "__getattribute__"=⇑⇑(.builtin "BaseException.__getattribute__")) (xt_Ended:W.findIn K ↥X_Ended "__getattr__"=⇑none) (xc_Ended:W.findIn K ↥X_Ended "__class__"=⇑⇑(.builtin "object.__class__"))
   (sg0:W.specialIn K (.builtin "object.__class__") "__get__"=⇑⇑(.builtin "getset_descriptor.__get__")) (tkX0:W.takesIn K (.builtin "object.__class__")=⇑true)
   (i0_nN:W.findIn K ↥X_nN "__init__"=⇑⇑(.builtin "ValueError.__init__"))
   (e_nN:W.mroIn K X_nN ↥X_gE=⇑true)
   (kk_NoName_nN:W.kitOne K ↥X_nN ↥X_nN=⇑true)
   (kk_NoName_Ended:W.kitOne K ↥X_nN ↥X_Ended=⇑false)
   (kv_nN:W.kitOne K ↥X_nN (.type "ValueError")=⇑true)
   (i0_Ended:W.findIn K ↥X_Ended "__init__"=⇑⇑(.builtin "ValueError.__init__"))
   (e_Ended:W.mroIn K X_Ended ↥X_gE=⇑true)
   (kk_Ended_nN:W.kitOne K ↥X_Ended ↥X_nN=⇑false)
   (kk_Ended_Ended:W.kitOne K ↥X_Ended ↥X_Ended=⇑true)
   (kv_Ended:W.kitOne K ↥X_Ended (.type "ValueError")=⇑true)
   {f0:L6} {y0:Fv} (a0:W.nsIn K mainGlobals "names_of"=⇑⇑↥f0) (l0:FL K f0 y0 "names_of" "names_of" jX)
   {f1:L6} {y1:Fv} (a1:W.nsIn K mainGlobals "reads"=⇑⇑↥f1) (l1:FL K f1 y1 "reads" "reads" nX)
   {f2:L6} {y2:Fv} (a2:W.nsIn K mainGlobals "gives"=⇑⇑↥f2) (l2:FL K f2 y2 "gives" "gives" nB)
   {f3:L6} {y3:Fv} (a3:W.nsIn K mainGlobals "atoms_of"=⇑⇑↥f3) (l3:FL K f3 y3 "atoms_of" "atoms_of" nv)
   {f4:L6} {y4:Fv} (a4:W.nsIn K mainGlobals "each_once"=⇑⇑↥f4) (l4:FL K f4 y4 "each_once" "each_once" mU)
   {f5:L6} {y5:Fv} (a5:W.nsIn K mainGlobals "ways"=⇑⇑↥f5) (l5:FL K f5 y5 "ways" "ways" iG)
   {f6:L6} {y6:Fv} (a6:W.nsIn K mainGlobals "begins_of"=⇑⇑↥f6) (l6:FL K f6 y6 "begins_of" "begins_of" jx)
   {f7:L6} {y7:Fv} (a7:W.nsIn K mainGlobals "firsts_behind"=⇑⇑↥f7) (l7:FL K f7 y7 "firsts_behind" "firsts_behind" iy)
   {f8:L6} {y8:Fv} (a8:W.findIn K ↥C_Flows "__init__"=⇑⇑↥f8) (i8:W.isFn K ↥f8=true) (l8:FL K f8 y8 "__init__" "Flows.__init__" fB)
   {f9:L6} {y9:Fv} (a9:W.nsIn K mainGlobals "value"=⇑⇑↥f9) (l9:FL K f9 y9 "value" "value" my)
   {f10:L6} {y10:Fv} (a10:W.nsIn K mainGlobals "worth"=⇑⇑↥f10) (l10:FL K f10 y10 "worth" "worth" nc)
   {f11:L6} {y11:Fv} (a11:W.nsIn K mainGlobals "reckonings_of"=⇑⇑↥f11) (l11:FL K f11 y11 "reckonings_of" "reckonings_of" nu)
   {f12:L6} {y12:Fv} (a12:W.nsIn K mainGlobals "spots_by_name"=⇑⇑↥f12) (l12:FL K f12 y12 "spots_by_name" "spots_by_name" kh)
   {f13:L6} {y13:Fv} (a13:W.nsIn K mainGlobals "marks_by_name"=⇑⇑↥f13) (l13:FL K f13 y13 "marks_by_name" "marks_by_name" kI)
   {f14:L6} {y14:Fv} (a14:W.findIn K ↥C_CodeFrame "__init__"=⇑⇑↥f14) (i14:W.isFn K ↥f14=true) (l14:FL K f14 y14 "__init__" "CodeFrame.__init__" i7)
   {f15:L6} {y15:Fv} (a15:W.findIn K ↥C_CodeFrame "worths_of"=⇑⇑↥f15) (i15:W.isFn K ↥f15=true) (l15:FL K f15 y15 "worths_of" "CodeFrame.worths_of" nj)
   {f16:L6} {y16:Fv} (a16:W.findIn K ↥C_CodeFrame "give"=⇑⇑↥f16) (i16:W.isFn K ↥f16=true) (l16:FL K f16 y16 "give" "CodeFrame.give" oO)
   {f17:L6} {y17:Fv} (a17:W.findIn K ↥C_CodeFrame "do_sets"=⇑⇑↥f17) (i17:W.isFn K ↥f17=true) (l17:FL K f17 y17 "do_sets" "CodeFrame.do_sets" kO)
   {f18:L6} {y18:Fv} (a18:W.findIn K ↥C_CodeWalker "ended"=⇑⇑↥f18) (i18:W.isFn K ↥f18=true) (l18:FL K f18 y18 "ended" "Walker.ended" mh)
   {f19:L6} {y19:Fv} (a19:W.findIn K ↥C_CodeWalker "answer"=⇑⇑↥f19) (i19:W.isFn K ↥f19=true) (l19:FL K f19 y19 "answer" "Walker.answer" nA)
   {f20:L6} {y20:Fv} (a20:W.findIn K ↥C_CodeWalker "owner_of"=⇑⇑↥f20) (i20:W.isFn K ↥f20=true) (l20:FL K f20 y20 "owner_of" "CodeWalker.owner_of" oI)
   {f21:L6} {y21:Fv} (a21:W.findIn K ↥C_CodeWalker "spot_of"=⇑⇑↥f21) (i21:W.isFn K ↥f21=true) (l21:FL K f21 y21 "spot_of" "CodeWalker.spot_of" lj)
   {f22:L6} {y22:Fv} (a22:W.findIn K ↥C_CodeWalker "mark_of"=⇑⇑↥f22) (i22:W.isFn K ↥f22=true) (l22:FL K f22 y22 "mark_of" "CodeWalker.mark_of" oQ)
   {f23:L6} {y23:Fv} (a23:W.findIn K ↥C_CodeWalker "chain_of"=⇑⇑↥f23) (i23:W.isFn K ↥f23=true) (l23:FL K f23 y23 "chain_of" "CodeWalker.chain_of" oF)
   {f24:L6} {y24:Fv} (a24:W.findIn K ↥C_CodeWalker "shown_at"=⇑⇑↥f24) (i24:W.isFn K ↥f24=true) (l24:FL K f24 y24 "shown_at" "CodeWalker.shown_at" i6)
   {f25:L6} {y25:Fv} (a25:W.findIn K ↥C_CodeWalker "names_at"=⇑⇑↥f25) (i25:W.isFn K ↥f25=true) (l25:FL K f25 y25 "names_at" "Walker.names_at" mX)
   {f26:L6} {y26:Fv} (a26:W.findIn K ↥C_CodeWalker "ask_for_level"=⇑⇑↥f26) (i26:W.isFn K ↥f26=true) (l26:FL K f26 y26 "ask_for_level" "Walker.ask_for_level" mq)
   {f27:L6} {y27:Fv} (a27:W.findIn K ↥C_CodeWalker "ask_for_name"=⇑⇑↥f27) (i27:W.isFn K ↥f27=true) (l27:FL K f27 y27 "ask_for_name" "Walker.ask_for_name" me)
   {f28:L6} {y28:Fv} (a28:W.findIn K ↥C_CodeWalker "place"=⇑⇑↥f28) (i28:W.isFn K ↥f28=true) (l28:FL K f28 y28 "place" "CodeWalker.place" iQ)
   {f29:L6} {y29:Fv} (a29:W.findIn K ↥C_CodeWalker "tell"=⇑⇑↥f29) (i29:W.isFn K ↥f29=true) (l29:FL K f29 y29 "tell" "CodeWalker.tell" oN)
   {f30:L6} {y30:Fv} (a30:W.findIn K ↥C_CodeWalker "told"=⇑⇑↥f30) (i30:W.isFn K ↥f30=true) (l30:FL K f30 y30 "told" "Walker.told" ny)
   {f31:L6} {y31:Fv} (a31:W.findIn K ↥C_CodeWalker "mates"=⇑⇑↥f31) (i31:W.isFn K ↥f31=true) (l31:FL K f31 y31 "mates" "CodeWalker.mates" gR)
   {f32:L6} {y32:Fv} (a32:W.findIn K ↥C_CodeWalker "fill_box"=⇑⇑↥f32) (i32:W.isFn K ↥f32=true) (l32:FL K f32 y32 "fill_box" "CodeWalker.fill_box" mN)
   {f33:L6} {y33:Fv} (a33:W.findIn K ↥C_CodeWalker "frames"=⇑⇑↥f33) (i33:W.isFn K ↥f33=true) (l33:FL K f33 y33 "frames" "Walker.frames" jw)
   {f34:L6} {y34:Fv} (a34:W.findIn K ↥C_CodeWalker "begin"=⇑⇑↥f34) (i34:W.isFn K ↥f34=true) (l34:FL K f34 y34 "begin" "CodeWalker.begin" oE)
   {f35:L6} {y35:Fv} (a35:W.findIn K ↥C_CodeWalker "go_back"=⇑⇑↥f35) (i35:W.isFn K ↥f35=true) (l35:FL K f35 y35 "go_back" "CodeWalker.go_back" kY)
   {f36:L6} {y36:Fv} (a36:W.findIn K ↥C_CodeWalker "do_act"=⇑⇑↥f36) (i36:W.isFn K ↥f36=true) (l36:FL K f36 y36 "do_act" "CodeWalker.do_act" j4)
   {f37:L6} {y37:Fv} (a37:W.findIn K ↥C_CodeWalker "walk_on"=⇑⇑↥f37) (i37:W.isFn K ↥f37=true) (l37:FL K f37 y37 "walk_on" "CodeWalker.walk_on" gj)
   {f38:L6} {y38:Fv} (a38:W.findIn K ↥C_CodeWalker "step"=⇑⇑↥f38) (i38:W.isFn K ↥f38=true) (l38:FL K f38 y38 "step" "Walker.step" nh)
   (ga39:W.specialIn K ↥C_Walker "__getattribute__"=⇑⇑(.builtin "type.__getattribute__")) (rd39:W.readsIn K C_Walker (.type "type")=true)
   {f39:L6} {y39:Fv} (a39:W.findIn K ↥C_Walker "__init__"=⇑⇑↥f39) (i39:W.isFn K ↥f39=true) (l39:FL K f39 y39 "__init__" "Walker.__init__" gM)
   (fc39:W.findCls K ↥C_Walker (.type "type") "__init__"=⇑(.val ↥f39))
   {f40:L6} {y40:Fv} (a40:W.findIn K ↥C_CodeWalker "__init__"=⇑⇑↥f40) (i40:W.isFn K ↥f40=true) (l40:FL K f40 y40 "__init__" "CodeWalker.__init__" ge)
   {f41:L6} {y41:Fv} (a41:W.nsIn K mainGlobals "_law_cell_at"=⇑⇑↥f41) (l41:FL K f41 y41 "_law_cell_at" "_law_cell_at" mI)
   {f42:L6} {y42:Fv} (a42:W.nsIn K mainGlobals "_law_whole"=⇑⇑↥f42) (l42:FL K f42 y42 "_law_whole" "_law_whole" nH)
   {f43:L6} {y43:Fv} (a43:W.nsIn K mainGlobals "_law_value"=⇑⇑↥f43) (l43:FL K f43 y43 "_law_value" "_law_value" nW)
   {f44:L6} {y44:Fv} (a44:W.nsIn K mainGlobals "_law_number"=⇑⇑↥f44) (l44:FL K f44 y44 "_law_number" "_law_number" nq)
   {f45:L6} {y45:Fv} (a45:W.nsIn K mainGlobals "_law_names"=⇑⇑↥f45) (l45:FL K f45 y45 "_law_names" "_law_names" fY)
   {f46:L6} {y46:Fv} (a46:W.nsIn K mainGlobals "_law_worth"=⇑⇑↥f46) (l46:FL K f46 y46 "_law_worth" "_law_worth" ng)
   {f47:L6} {y47:Fv} (a47:W.nsIn K mainGlobals "_law_some"=⇑⇑↥f47) (l47:FL K f47 y47 "_law_some" "_law_some" iM)
   {f48:L6} {y48:Fv} (a48:W.nsIn K mainGlobals "_law_alike"=⇑⇑↥f48) (l48:FL K f48 y48 "_law_alike" "_law_alike" kz)
   {f49:L6} {y49:Fv} (a49:W.nsIn K mainGlobals "_law_frames"=⇑⇑↥f49) (l49:FL K f49 y49 "_law_frames" "_law_frames" jA)
   {f50:L6} {y50:Fv} (a50:W.nsIn K mainGlobals "_law_function"=⇑⇑↥f50) (l50:FL K f50 y50 "_law_function" "_law_function" jo)
   {f51:L6} {y51:Fv} (a51:W.nsIn K mainGlobals "_law_mark"=⇑⇑↥f51) (l51:FL K f51 y51 "_law_mark" "_law_mark" jU)
   {f52:L6} {y52:Fv} (a52:W.nsIn K mainGlobals "_law_refused"=⇑⇑↥f52) (l52:FL K f52 y52 "_law_refused" "_law_refused" mZ)
   {f53:L6} {y53:Fv} (a53:W.nsIn K mainGlobals "_law_mates"=⇑⇑↥f53) (l53:FL K f53 y53 "_law_mates" "_law_mates" j6)
   {f54:L6} {y54:Fv} (a54:W.nsIn K mainGlobals "_law_name_told"=⇑⇑↥f54) (l54:FL K f54 y54 "_law_name_told" "_law_name_told" kE)
   {f55:L6} {y55:Fv} (a55:W.nsIn K mainGlobals "_law_stands"=⇑⇑↥f55) (l55:FL K f55 y55 "_law_stands" "_law_stands" fG)
   {f56:L6} {y56:Fv} (a56:W.nsIn K mainGlobals "_law_filled"=⇑⇑↥f56) (l56:FL K f56 y56 "_law_filled" "_law_filled" gc)
   {f57:L6} {y57:Fv} (a57:W.nsIn K mainGlobals "_law_walked"=⇑⇑↥f57) (l57:FL K f57 y57 "_law_walked" "_law_walked" dj)
   {f58:L6} {y58:Fv} (a58:W.nsIn K mainGlobals "law"=⇑⇑↥f58) (l58:FL K f58 y58 "law" "law" cg)
   {tk0:Tok} (w0:W.nsIn K mainGlobals "WIDE"=⇑⇑(.int 281474976710656 tk0))
   {aT0:L6} {odT0:Hl L6} {itT0:Array K'} {nT0:Nat} {slT0:Array (Hl K')} (q0:W.nsIn K mainGlobals "GIVING_KINDS"=⇑⇑↥aT0) (m0:K.lookup aT0=⇑#[.type "tuple",odT0,.seq itT0 nT0,slT0]) (v0:aU (K12.giving.map V.str) itT0.toList) (s0:itT0.size<=sizeLine)
   {aD0:L6} (qD0:W.nsIn K mainGlobals "ATOM_PLACES"=⇑⇑↥aD0) (mD0:PyProof.Rows.KTD.tabLook (kt K) (λa=>K.lookup a) aD0 K12.tabl=true)
   {aD1:L6} (qD1:W.nsIn K mainGlobals "RECKONING_PLACES"=⇑⇑↥aD1) (mD1:PyProof.Rows.KTD.tabLook (kt K) (λa=>K.lookup a) aD1 Cw.rtab=true)
   (z_ValueError:W.nsIn K mainGlobals "ValueError"=⇑none)
   (z_sum:W.nsIn K mainGlobals "sum"=⇑none)
   (z_len:W.nsIn K mainGlobals "len"=⇑none)
   (z_list:W.nsIn K mainGlobals "list"=⇑none)
   (z_tuple:W.nsIn K mainGlobals "tuple"=⇑none)
   (z_isinstance:W.nsIn K mainGlobals "isinstance"=⇑none)
   (z_range:W.nsIn K mainGlobals "range"=⇑none)
   (z_enumerate:W.nsIn K mainGlobals "enumerate"=⇑none)
   (z_dict:W.nsIn K mainGlobals "dict"=⇑none)
   (z_str:W.nsIn K mainGlobals "str"=⇑none)
   (z_int:W.nsIn K mainGlobals "int"=⇑none)
   (z_zip:W.nsIn K mainGlobals "zip"=⇑none)
   (z_bool:W.nsIn K mainGlobals "bool"=⇑none)
   : ∃t,Txt K mg t:=by
 show#[#[X_gE,X_nN,X_Ended,C_Flows,C_Walker,C_CodeWalker,C_CodeFrame,f0,y0.fn "names_of" "names_of" jX,f1,y1.fn "reads" "reads" nX,f2,y2.fn "gives" "gives" nB,f3,y3.fn "atoms_of" "atoms_of" nv,f4,y4.fn "each_once" "each_once" mU,f5,y5.fn "ways" "ways" iG,f6,y6.fn "begins_of" "begins_of" jx,f7,y7.fn "firsts_behind" "firsts_behind" iy,f8,y8.fn "__init__" "Flows.__init__" fB,f9,y9.fn "value" "value" my,f10,y10.fn "worth" "worth" nc,f11,y11.fn "reckonings_of" "reckonings_of" nu,f12,y12.fn "spots_by_name" "spots_by_name" kh,f13,y13.fn "marks_by_name" "marks_by_name" kI,f14,y14.fn "__init__" "CodeFrame.__init__" i7,f15,y15.fn "worths_of" "CodeFrame.worths_of" nj,f16,y16.fn "give" "CodeFrame.give" oO,f17,y17.fn "do_sets" "CodeFrame.do_sets" kO,f18,y18.fn "ended" "Walker.ended" mh,f19,y19.fn "answer" "Walker.answer" nA,f20,y20.fn "owner_of" "CodeWalker.owner_of" oI,f21,y21.fn "spot_of" "CodeWalker.spot_of" lj,f22,y22.fn "mark_of" "CodeWalker.mark_of" oQ,f23,y23.fn "chain_of" "CodeWalker.chain_of" oF,f24,y24.fn "shown_at" "CodeWalker.shown_at" i6,f25,y25.fn "names_at" "Walker.names_at" mX,f26,y26.fn "ask_for_level" "Walker.ask_for_level" mq,f27,y27.fn "ask_for_name" "Walker.ask_for_name" me,f28,y28.fn "place" "CodeWalker.place" iQ,f29,y29.fn "tell" "CodeWalker.tell" oN,f30,y30.fn "told" "Walker.told" ny,f31,y31.fn "mates" "CodeWalker.mates" gR,f32,y32.fn "fill_box" "CodeWalker.fill_box" mN,f33,y33.fn "frames" "Walker.frames" jw,f34,y34.fn "begin" "CodeWalker.begin" oE,f35,y35.fn "go_back" "CodeWalker.go_back" kY,f36,y36.fn "do_act" "CodeWalker.do_act" j4,f37,y37.fn "walk_on" "CodeWalker.walk_on" gj,f38,y38.fn "step" "Walker.step" nh,f39,y39.fn "__init__" "Walker.__init__" gM,f40,y40.fn "__init__" "CodeWalker.__init__" ge,f41,y41.fn "_law_cell_at" "_law_cell_at" mI,f42,y42.fn "_law_whole" "_law_whole" nH,f43,y43.fn "_law_value" "_law_value" nW,f44,y44.fn "_law_number" "_law_number" nq,f45,y45.fn "_law_names" "_law_names" fY,f46,y46.fn "_law_worth" "_law_worth" ng,f47,y47.fn "_law_some" "_law_some" iM,f48,y48.fn "_law_alike" "_law_alike" kz,f49,y49.fn "_law_frames" "_law_frames" jA,f50,y50.fn "_law_function" "_law_function" jo,f51,y51.fn "_law_mark" "_law_mark" jU,f52,y52.fn "_law_refused" "_law_refused" mZ,f53,y53.fn "_law_mates" "_law_mates" j6,f54,y54.fn "_law_name_told" "_law_name_told" kE,f55,y55.fn "_law_stands" "_law_stands" fG,f56,y56.fn "_law_filled" "_law_filled" gc,f57,y57.fn "_law_walked" "_law_walked" dj,f58,y58.fn "law" "law" cg,aT0,aD0,aD1],?_];have bl:∀(s:L5) (u:K'),BindsTo s (y58.fn "law" "law" cg) ⟨[u],[]⟩ [("_law_script",u)]:=λs u=>.of_eq rfl;show#[(qT X G xa_gE xl_gE xv_gE xk_gE xs_gE xg_gE xt_gE xc_gE sg0 tkX0),
   (qT X G xa_nN xl_nN xv_nN xk_nN xs_nN xg_nN xt_nN xc_nN sg0 tkX0),
   (qT X G xa_Ended xl_Ended xv_Ended xk_Ended xs_Ended xg_Ended xt_Ended xc_Ended sg0 tkX0),
   (i0_nN),
   (e_nN),
   (kk_NoName_nN),
   (kk_NoName_Ended),
   (kv_nN),
   (i0_Ended),
   (e_Ended),
   (kk_Ended_nN),
   (kk_Ended_Ended),
   (kv_Ended),
   (bn X G a0 l0.1 l0.2.1 l0.2.2 λ_ _ _ _ _ _ us hl=>match us,hl with | [_],_=>rfl),
   (bn X G a1 l1.1 l1.2.1 l1.2.2 λ_ _ _ _ _ _ us hl=>match us,hl with | [_],_=>rfl),
   (bn X G a2 l2.1 l2.2.1 l2.2.2 λ_ _ _ _ _ _ us hl=>match us,hl with | [_],_=>rfl),
   (bn X G a3 l3.1 l3.2.1 l3.2.2 λ_ _ _ _ _ _ us hl=>match us,hl with | [_],_=>rfl),
   (bn X G a4 l4.1 l4.2.1 l4.2.2 λ_ _ _ _ _ _ us hl=>match us,hl with | [_],_=>rfl),
   (bn X G a5 l5.1 l5.2.1 l5.2.2 λ_ _ _ _ _ _ us hl=>match us,hl with | [_],_=>rfl),
   (bn X G a6 l6.1 l6.2.1 l6.2.2 λ_ _ _ _ _ _ us hl=>match us,hl with | [_],_=>rfl),
   (bn X G a7 l7.1 l7.2.1 l7.2.2 λ_ _ _ _ _ _ us hl=>match us,hl with | [_,_],_=>rfl),
   (qu mk_Flows kc_Flows a8 i8 l8.1 l8.2.1 l8.2.2 λ_ _ _ _ _ _ us hl=>match us,hl with | [_,_],_=>rfl),
   (bn X G a9 l9.1 l9.2.1 l9.2.2 λ_ _ _ _ _ _ us hl=>match us,hl with | [_,_,_],_=>rfl),
   (bn X G a10 l10.1 l10.2.1 l10.2.2 λ_ _ _ _ _ _ us hl=>match us,hl with | [_,_],_=>rfl),
   (bn X G a11 l11.1 l11.2.1 l11.2.2 λ_ _ _ _ _ _ us hl=>match us,hl with | [_],_=>rfl),
   (bn X G a12 l12.1 l12.2.1 l12.2.2 λ_ _ _ _ _ _ us hl=>match us,hl with | [_],_=>rfl),
   (bn X G a13 l13.1 l13.2.1 l13.2.2 λ_ _ _ _ _ _ us hl=>match us,hl with | [_],_=>rfl),
   (qu mk_CodeFrame kc_CodeFrame a14 i14 l14.1 l14.2.1 l14.2.2 λ_ _ _ _ _ _ us hl=>match us,hl with | [_,_,_,_],_=>rfl),
   (cL a15 i15 l15.1 l15.2.1 l15.2.2 λ_ _ _ _ _ _ us hl=>match us,hl with | [_,_],_=>rfl),
   (cL a16 i16 l16.1 l16.2.1 l16.2.2 λ_ _ _ _ _ _ us hl=>match us,hl with | [_,_,_],_=>rfl),
   (cL a17 i17 l17.1 l17.2.1 l17.2.2 λ_ _ _ _ _ _ us hl=>match us,hl with | [_,_],_=>rfl),
   (cL a18 i18 l18.1 l18.2.1 l18.2.2 λ_ _ _ _ _ _ us hl=>match us,hl with | [_],_=>rfl),
   (cL a19 i19 l19.1 l19.2.1 l19.2.2 λ_ _ _ _ _ _ us hl=>match us,hl with | [_],_=>rfl),
   (cL a20 i20 l20.1 l20.2.1 l20.2.2 λ_ _ _ _ _ _ us hl=>match us,hl with | [_,_],_=>rfl),
   (cL a21 i21 l21.1 l21.2.1 l21.2.2 λ_ _ _ _ _ _ us hl=>match us,hl with | [_,_],_=>rfl),
   (cL a22 i22 l22.1 l22.2.1 l22.2.2 λ_ _ _ _ _ _ us hl=>match us,hl with | [_,_],_=>rfl),
   (cL a23 i23 l23.1 l23.2.1 l23.2.2 λ_ _ _ _ _ _ us hl=>match us,hl with | [_,_],_=>rfl),
   (cL a24 i24 l24.1 l24.2.1 l24.2.2 λ_ _ _ _ _ _ us hl=>match us,hl with | [_,_],_=>rfl),
   (cL a25 i25 l25.1 l25.2.1 l25.2.2 λ_ _ _ _ _ _ us hl=>match us,hl with | [_,_],_=>rfl),
   (cL a26 i26 l26.1 l26.2.1 l26.2.2 λ_ _ _ _ _ _ us hl=>match us,hl with | [_,_],_=>rfl),
   (cL a27 i27 l27.1 l27.2.1 l27.2.2 λ_ _ _ _ _ _ us hl=>match us,hl with | [_,_,_],_=>rfl),
   (cL a28 i28 l28.1 l28.2.1 l28.2.2 λ_ _ _ _ _ _ us hl=>match us,hl with | [_,_,_],_=>rfl),
   (cL a29 i29 l29.1 l29.2.1 l29.2.2 λ_ _ _ _ _ _ us hl=>match us,hl with | [_,_,_],_=>rfl),
   (cL a30 i30 l30.1 l30.2.1 l30.2.2 λ_ _ _ _ _ _ us hl=>match us,hl with | [_,_,_],_=>rfl),
   (cL a31 i31 l31.1 l31.2.1 l31.2.2 λ_ _ _ _ _ _ us hl=>match us,hl with | [_,_],_=>rfl),
   (cL a32 i32 l32.1 l32.2.1 l32.2.2 λ_ _ _ _ _ _ us hl=>match us,hl with | [_,_,_,_],_=>rfl),
   (cL a33 i33 l33.1 l33.2.1 l33.2.2 λ_ _ _ _ _ _ us hl=>match us,hl with | [_],_=>rfl),
   (cL a34 i34 l34.1 l34.2.1 l34.2.2 λ_ _ _ _ _ _ us hl=>match us,hl with | [_,_,_],_=>rfl),
   (cL a35 i35 l35.1 l35.2.1 l35.2.2 λ_ _ _ _ _ _ us hl=>match us,hl with | [_,_],_=>rfl),
   (cL a36 i36 l36.1 l36.2.1 l36.2.2 λ_ _ _ _ _ _ us hl=>match us,hl with | [_,_,_,_],_=>rfl),
   (cL a37 i37 l37.1 l37.2.1 l37.2.2 λ_ _ _ _ _ _ us hl=>match us,hl with | [_],_=>rfl),
   (cL a38 i38 l38.1 l38.2.1 l38.2.2 λ_ _ _ _ _ _ us hl=>match us,hl with | [_],_=>rfl),
   (Ey ga39 rd39 fc39 l39.1 l39.2.1 l39.2.2 λ_ _ _ _ _ _ us hl=>match us,hl with | [_,_],_=>rfl),
   (qu mk_CodeWalker kc_CodeWalker a40 i40 l40.1 l40.2.1 l40.2.2 λ_ _ _ _ _ _ us hl=>match us,hl with | [_,_,_,_,_],_=>rfl),
   (bn X G a41 l41.1 l41.2.1 l41.2.2 λ_ _ _ _ _ _ us hl=>match us,hl with | [_,_],_=>rfl),
   (bn X G a42 l42.1 l42.2.1 l42.2.2 λ_ _ _ _ _ _ us hl=>match us,hl with | [_],_=>rfl),
   (bn X G a43 l43.1 l43.2.1 l43.2.2 λ_ _ _ _ _ _ us hl=>match us,hl with | [_,_,_],_=>rfl),
   (bn X G a44 l44.1 l44.2.1 l44.2.2 λ_ _ _ _ _ _ us hl=>match us,hl with | [_],_=>rfl),
   (bn X G a45 l45.1 l45.2.1 l45.2.2 λ_ _ _ _ _ _ us hl=>match us,hl with | [_,_],_=>rfl),
   (bn X G a46 l46.1 l46.2.1 l46.2.2 λ_ _ _ _ _ _ us hl=>match us,hl with | [_,_],_=>rfl),
   (bn X G a47 l47.1 l47.2.1 l47.2.2 λ_ _ _ _ _ _ us hl=>match us,hl with | [_,_],_=>rfl),
   (bn X G a48 l48.1 l48.2.1 l48.2.2 λ_ _ _ _ _ _ us hl=>match us,hl with | [_,_],_=>rfl),
   (bn X G a49 l49.1 l49.2.1 l49.2.2 λ_ _ _ _ _ _ us hl=>match us,hl with | [_,_],_=>rfl),
   (bn X G a50 l50.1 l50.2.1 l50.2.2 λ_ _ _ _ _ _ us hl=>match us,hl with | [_,_,_],_=>rfl),
   (bn X G a51 l51.1 l51.2.1 l51.2.2 λ_ _ _ _ _ _ us hl=>match us,hl with | [_,_,_,_],_=>rfl),
   (bn X G a52 l52.1 l52.2.1 l52.2.2 λ_ _ _ _ _ _ us hl=>match us,hl with | [_,_,_,_],_=>rfl),
   (bn X G a53 l53.1 l53.2.1 l53.2.2 λ_ _ _ _ _ _ us hl=>match us,hl with | [_,_],_=>rfl),
   (bn X G a54 l54.1 l54.2.1 l54.2.2 λ_ _ _ _ _ _ us hl=>match us,hl with | [_,_,_,_,_],_=>rfl),
   (bn X G a55 l55.1 l55.2.1 l55.2.2 λ_ _ _ _ _ _ us hl=>match us,hl with | [_,_,_,_],_=>rfl),
   (bn X G a56 l56.1 l56.2.1 l56.2.2 λ_ _ _ _ _ _ us hl=>match us,hl with | [_,_,_,_,_],_=>rfl),
   (bn X G a57 l57.1 l57.2.1 l57.2.2 λ_ _ _ _ _ _ us hl=>match us,hl with | [_,_,_,_,_],_=>rfl),
   (bn X G a58 l58.1 l58.2.1 l58.2.2 λ_ _ _ _ _ _ us hl=>match us,hl with | [_],_=>rfl),
   #[#[pg_Flows,hd_Flows,po_Flows,sa_Flows],W.mg_of X G aC_Flows],
   #[#[pg_Walker,hd_Walker,po_Walker,sa_Walker],W.mg_of X G aC_Walker],
   #[#[pg_CodeWalker,hd_CodeWalker,po_CodeWalker,sa_CodeWalker],W.mg_of X G aC_CodeWalker],
   #[#[pg_CodeFrame,hd_CodeFrame,po_CodeFrame,sa_CodeFrame],W.mg_of X G aC_CodeFrame],
   jd,
   je,
   jc,
   jf,
   jg,
   ik,
   jh,
   ii,
   eI,
   ij,
   lg,
   lZ,
   le,
   jb,
   ja,
   fT,
   ig,
   gY,
   gy,
   eX,
   #[_,W.mg_of X G w0],
   W.mg_of X G q0,
   (λH=>.inr #[_,itT0,nT0,m0,7,s0,v0]),
   W.mg_of X G qD0,
   tP mD0,
   W.mg_of X G qD1,
   tP mD1,
   W.mg_none_of X G z_ValueError,
   W.mg_none_of X G z_sum,
   W.mg_none_of X G z_len,
   W.mg_none_of X G z_list,
   W.mg_none_of X G z_tuple,
   W.mg_none_of X G z_isinstance,
   W.mg_none_of X G z_range,
   W.mg_none_of X G z_enumerate,
   W.mg_none_of X G z_dict,
   W.mg_none_of X G z_str,
   W.mg_none_of X G z_int,
   W.mg_none_of X G z_zip,
   W.mg_none_of X G z_bool,
   bl]
end K38
end
open PySem PySem.W PyProof.Rows
set_option maxRecDepth 100000 in
set_option maxHeartbeats 0 in
theorem PySem.Challenge.cw_stopglass_k38_told_by_places_holds : PySem.Challenge.rw_stopglass_k38_told_by_places.Holds := by
 refine Hd.pk.2 ?_
 unfold Hd.pk
 dsimp only
 k_fill
 refine L2.walk_ofK (l:=PySem.Challenge.rw_stopglass_k38_told_by_places) (n:=63) (k:=19) (x:="_law_script") (CX:=L2.CX0) (sp:=K38.sp_law) rfl (by decide) rfl ⟨rfl,by decide,by decide⟩ (λw h Y=>PySem.W.kIn_of Y) ?F ?S ?C
 case F =>
   intro w mg fa h KX G hmg;have T:∃t,K38.Txt (L2.KOf KX) mg t:=by
     dsimp only[L2.KOf]
     refine' K38.txt_mk KX G ?aC_Flows ?pg_Flows ?hd_Flows ?po_Flows ?sa_Flows ?mk_Flows ?kc_Flows ?jd ?je ?jc ?jf ?jg ?ik ?jh ?aC_Walker ?pg_Walker ?hd_Walker ?po_Walker ?sa_Walker ?mk_Walker ?kc_Walker ?aC_CodeWalker ?pg_CodeWalker ?hd_CodeWalker ?po_CodeWalker ?sa_CodeWalker ?mk_CodeWalker ?kc_CodeWalker ?ii ?eI ?ij ?lg ?lZ ?le ?jb ?ja ?fT ?aC_CodeFrame ?pg_CodeFrame ?hd_CodeFrame ?po_CodeFrame ?sa_CodeFrame ?mk_CodeFrame ?kc_CodeFrame ?ig ?gY ?gy ?eX ?xa_gE ?xl_gE ?xv_gE ?xk_gE ?xs_gE ?xg_gE ?xt_gE ?xc_gE ?xa_nN ?xl_nN ?xv_nN ?xk_nN ?xs_nN ?xg_nN ?xt_nN ?xc_nN ?xa_Ended ?xl_Ended ?xv_Ended ?xk_Ended ?xs_Ended ?xg_Ended ?xt_Ended ?xc_Ended ?sg0 ?tkX0 ?i0_nN ?e_nN ?kk_NoName_nN ?kk_NoName_Ended ?kv_nN ?i0_Ended ?e_Ended ?kk_Ended_nN ?kk_Ended_Ended ?kv_Ended ?a0 ?l0 ?a1 ?l1 ?a2 ?l2 ?a3 ?l3 ?a4 ?l4 ?a5 ?l5 ?a6 ?l6 ?a7 ?l7 ?a8 ?i8 ?l8 ?a9 ?l9 ?a10 ?l10 ?a11 ?l11 ?a12 ?l12 ?a13 ?l13 ?a14 ?i14 ?l14 ?a15 ?i15 ?l15 ?a16 ?i16 ?l16 ?a17 ?i17 ?l17 ?a18 ?i18 ?l18 ?a19 ?i19 ?l19 ?a20 ?i20 ?l20 ?a21 ?i21 ?l21 ?a22 ?i22 ?l22 ?a23 ?i23 ?l23 ?a24 ?i24 ?l24 ?a25 ?i25 ?l25 ?a26 ?i26 ?l26 ?a27 ?i27 ?l27 ?a28 ?i28 ?l28 ?a29 ?i29 ?l29 ?a30 ?i30 ?l30 ?a31 ?i31 ?l31 ?a32 ?i32 ?l32 ?a33 ?i33 ?l33 ?a34 ?i34 ?l34 ?a35 ?i35 ?l35 ?a36 ?i36 ?l36 ?a37 ?i37 ?l37 ?a38 ?i38 ?l38 ?ga39 ?rd39 ?a39 ?i39 ?l39 ?fc39 ?a40 ?i40 ?l40 ?a41 ?l41 ?a42 ?l42 ?a43 ?l43 ?a44 ?l44 ?a45 ?l45 ?a46 ?l46 ?a47 ?l47 ?a48 ?l48 ?a49 ?l49 ?a50 ?l50 ?a51 ?l51 ?a52 ?l52 ?a53 ?l53 ?a54 ?l54 ?a55 ?l55 ?a56 ?l56 ?a57 ?l57 ?a58 ?l58 ?w0 ?q0 ?m0 ?v0 ?s0 ?qD0 ?mD0 ?qD1 ?mD1 ?z_ValueError ?z_sum ?z_len ?z_list ?z_tuple ?z_isinstance ?z_range ?z_enumerate ?z_dict ?z_str ?z_int ?z_zip ?z_bool
     (case aC_Flows=>k_is)
     (case pg_Flows=>k_is)
     (case hd_Flows=>k_is)
     (case po_Flows=>k_is)
     (case sa_Flows=>k_is)
     (case mk_Flows=>k_is)
     (case kc_Flows=>k_is)
     (case jd=>k_is)
     (case je=>k_is)
     (case jc=>k_is)
     (case jf=>k_is)
     (case jg=>k_is)
     (case ik=>k_is)
     (case jh=>k_is)
     (case aC_Walker=>k_is)
     (case pg_Walker=>k_is)
     (case hd_Walker=>k_is)
     (case po_Walker=>k_is)
     (case sa_Walker=>k_is)
     (case mk_Walker=>k_is)
     (case kc_Walker=>k_is)
     (case aC_CodeWalker=>k_is)
     (case pg_CodeWalker=>k_is)
     (case hd_CodeWalker=>k_is)
     (case po_CodeWalker=>k_is)
     (case sa_CodeWalker=>k_is)
     (case mk_CodeWalker=>k_is)
     (case kc_CodeWalker=>k_is)
     (case ii=>k_is)
     (case eI=>k_is)
     (case ij=>k_is)
     (case lg=>k_is)
     (case lZ=>k_is)
     (case le=>k_is)
     (case jb=>k_is)
     (case ja=>k_is)
     (case fT=>k_is)
     (case aC_CodeFrame=>k_is)
     (case pg_CodeFrame=>k_is)
     (case hd_CodeFrame=>k_is)
     (case po_CodeFrame=>k_is)
     (case sa_CodeFrame=>k_is)
     (case mk_CodeFrame=>k_is)
     (case kc_CodeFrame=>k_is)
     (case ig=>k_is)
     (case gY=>k_is)
     (case gy=>k_is)
     (case eX=>k_is)
     (case xa_gE=>k_is)
     (case xl_gE=>k_is)
     (case xv_gE=>first|k_is|kernel_rfl)
     (case xk_gE=>k_is)
     (case xs_gE=>k_is)
     (case xg_gE=>k_is)
     (case xt_gE=>k_is)
     (case xc_gE=>k_is)
     (case xa_nN=>k_is)
     (case xl_nN=>k_is)
     (case xv_nN=>first|k_is|kernel_rfl)
     (case xk_nN=>k_is)
     (case xs_nN=>k_is)
     (case xg_nN=>k_is)
     (case xt_nN=>k_is)
     (case xc_nN=>k_is)
     (case xa_Ended=>k_is)
     (case xl_Ended=>k_is)
     (case xv_Ended=>first|k_is|kernel_rfl)
     (case xk_Ended=>k_is)
     (case xs_Ended=>k_is)
     (case xg_Ended=>k_is)
     (case xt_Ended=>k_is)
     (case xc_Ended=>k_is)
     (case sg0=>first|k_is|kernel_rfl)
     (case tkX0=>first|k_is|kernel_rfl)
     (case i0_nN=>first|k_is|kernel_rfl)
     (case e_nN=>first|k_is|kernel_rfl)
     (case kk_NoName_nN=>first|k_is|kernel_rfl)
     (case kk_NoName_Ended=>first|k_is|kernel_rfl)
     (case kv_nN=>first|k_is|kernel_rfl)
     (case i0_Ended=>first|k_is|kernel_rfl)
     (case e_Ended=>first|k_is|kernel_rfl)
     (case kk_Ended_nN=>first|k_is|kernel_rfl)
     (case kk_Ended_Ended=>first|k_is|kernel_rfl)
     (case kv_Ended=>first|k_is|kernel_rfl)
     (case a0=>k_is)
     (case l0=>apply K38.fl_mk <;> k_is)
     (case a1=>k_is)
     (case l1=>apply K38.fl_mk <;> k_is)
     (case a2=>k_is)
     (case l2=>apply K38.fl_mk <;> k_is)
     (case a3=>k_is)
     (case l3=>apply K38.fl_mk <;> k_is)
     (case a4=>k_is)
     (case l4=>apply K38.fl_mk <;> k_is)
     (case a5=>k_is)
     (case l5=>apply K38.fl_mk <;> k_is)
     (case a6=>k_is)
     (case l6=>apply K38.fl_mk <;> k_is)
     (case a7=>k_is)
     (case l7=>apply K38.fl_mk <;> k_is)
     (case a8=>k_is)
     (case i8=>k_is)
     (case l8=>apply K38.fl_mk <;> k_is)
     (case a9=>k_is)
     (case l9=>apply K38.fl_mk <;> k_is)
     (case a10=>k_is)
     (case l10=>apply K38.fl_mk <;> k_is)
     (case a11=>k_is)
     (case l11=>apply K38.fl_mk <;> k_is)
     (case a12=>k_is)
     (case l12=>apply K38.fl_mk <;> k_is)
     (case a13=>k_is)
     (case l13=>apply K38.fl_mk <;> k_is)
     (case a14=>k_is)
     (case i14=>k_is)
     (case l14=>apply K38.fl_mk <;> k_is)
     (case a15=>k_is)
     (case i15=>k_is)
     (case l15=>apply K38.fl_mk <;> k_is)
     (case a16=>k_is)
     (case i16=>k_is)
     (case l16=>apply K38.fl_mk <;> k_is)
     (case a17=>k_is)
     (case i17=>k_is)
     (case l17=>apply K38.fl_mk <;> k_is)
     (case a18=>k_is)
     (case i18=>k_is)
     (case l18=>apply K38.fl_mk <;> k_is)
     (case a19=>k_is)
     (case i19=>k_is)
     (case l19=>apply K38.fl_mk <;> k_is)
     (case a20=>k_is)
     (case i20=>k_is)
     (case l20=>apply K38.fl_mk <;> k_is)
     (case a21=>k_is)
     (case i21=>k_is)
     (case l21=>apply K38.fl_mk <;> k_is)
     (case a22=>k_is)
     (case i22=>k_is)
     (case l22=>apply K38.fl_mk <;> k_is)
     (case a23=>k_is)
     (case i23=>k_is)
     (case l23=>apply K38.fl_mk <;> k_is)
     (case a24=>k_is)
     (case i24=>k_is)
     (case l24=>apply K38.fl_mk <;> k_is)
     (case a25=>k_is)
     (case i25=>k_is)
     (case l25=>apply K38.fl_mk <;> k_is)
     (case a26=>k_is)
     (case i26=>k_is)
     (case l26=>apply K38.fl_mk <;> k_is)
     (case a27=>k_is)
     (case i27=>k_is)
     (case l27=>apply K38.fl_mk <;> k_is)
     (case a28=>k_is)
     (case i28=>k_is)
     (case l28=>apply K38.fl_mk <;> k_is)
     (case a29=>k_is)
     (case i29=>k_is)
     (case l29=>apply K38.fl_mk <;> k_is)
     (case a30=>k_is)
     (case i30=>k_is)
     (case l30=>apply K38.fl_mk <;> k_is)
     (case a31=>k_is)
     (case i31=>k_is)
     (case l31=>apply K38.fl_mk <;> k_is)
     (case a32=>k_is)
     (case i32=>k_is)
     (case l32=>apply K38.fl_mk <;> k_is)
     (case a33=>k_is)
     (case i33=>k_is)
     (case l33=>apply K38.fl_mk <;> k_is)
     (case a34=>k_is)
     (case i34=>k_is)
     (case l34=>apply K38.fl_mk <;> k_is)
     (case a35=>k_is)
     (case i35=>k_is)
     (case l35=>apply K38.fl_mk <;> k_is)
     (case a36=>k_is)
     (case i36=>k_is)
     (case l36=>apply K38.fl_mk <;> k_is)
     (case a37=>k_is)
     (case i37=>k_is)
     (case l37=>apply K38.fl_mk <;> k_is)
     (case a38=>k_is)
     (case i38=>k_is)
     (case l38=>apply K38.fl_mk <;> k_is)
     (case ga39=>first|k_is|kernel_rfl)
     (case rd39=>first|k_is|kernel_rfl)
     (case a39=>k_is)
     (case i39=>k_is)
     (case l39=>apply K38.fl_mk <;> k_is)
     (case fc39=>first|k_is|kernel_rfl)
     (case a40=>k_is)
     (case i40=>k_is)
     (case l40=>apply K38.fl_mk <;> k_is)
     (case a41=>k_is)
     (case l41=>apply K38.fl_mk <;> k_is)
     (case a42=>k_is)
     (case l42=>apply K38.fl_mk <;> k_is)
     (case a43=>k_is)
     (case l43=>apply K38.fl_mk <;> k_is)
     (case a44=>k_is)
     (case l44=>apply K38.fl_mk <;> k_is)
     (case a45=>k_is)
     (case l45=>apply K38.fl_mk <;> k_is)
     (case a46=>k_is)
     (case l46=>apply K38.fl_mk <;> k_is)
     (case a47=>k_is)
     (case l47=>apply K38.fl_mk <;> k_is)
     (case a48=>k_is)
     (case l48=>apply K38.fl_mk <;> k_is)
     (case a49=>k_is)
     (case l49=>apply K38.fl_mk <;> k_is)
     (case a50=>k_is)
     (case l50=>apply K38.fl_mk <;> k_is)
     (case a51=>k_is)
     (case l51=>apply K38.fl_mk <;> k_is)
     (case a52=>k_is)
     (case l52=>apply K38.fl_mk <;> k_is)
     (case a53=>k_is)
     (case l53=>apply K38.fl_mk <;> k_is)
     (case a54=>k_is)
     (case l54=>apply K38.fl_mk <;> k_is)
     (case a55=>k_is)
     (case l55=>apply K38.fl_mk <;> k_is)
     (case a56=>k_is)
     (case l56=>apply K38.fl_mk <;> k_is)
     (case a57=>k_is)
     (case l57=>apply K38.fl_mk <;> k_is)
     (case a58=>k_is)
     (case l58=>apply K38.fl_mk <;> k_is)
     (case w0=>k_is)
     (case q0=>k_is)
     (case m0=>k_is)
     (case v0=>(repeat (first|exact .nil|refine .cons ⟨_,rfl⟩ ?_)))
     (case s0=>decide)
     (case qD0=>k_is)
     (case mD0=>kernel_rfl)
     (case qD1=>k_is)
     (case mD1=>kernel_rfl)
     (case z_ValueError=>k_is)
     (case z_sum=>k_is)
     (case z_len=>k_is)
     (case z_list=>k_is)
     (case z_tuple=>k_is)
     (case z_isinstance=>k_is)
     (case z_range=>k_is)
     (case z_enumerate=>k_is)
     (case z_dict=>k_is)
     (case z_str=>k_is)
     (case z_int=>k_is)
     (case z_zip=>k_is)
     (case z_bool=>k_is)
   obtain⟨t,T⟩:=T;have e0:=hmg.symm.trans T.law.g;cases e0;exact⟨t.oR,T.bl,λbase kb nb=>K38.ok_law T⟩
 case S=>exact λK H a ns hl hO hS=>⟨a,ns,rfl,hS,hl,λ_=>rfl⟩
 case C=>exact λ_ _ _ _ z=>z
