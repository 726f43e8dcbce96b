import PyProof.Rows.All
import OpenK.KLine
import OpenK.KQuick
import Wide.Line
import KE.KDictList
import KE.KDictOf
import KE.KEqDict
import KE.KFromBytes
import KE.KIntText
import KE.KIsAll
import KE.KItem
import KE.KRevIter
import KE.KTabLook
import Lean
import PySem.Challenge.RW_stopglass_k25_whole_walks
set_option Elab.async false
set_option linter.all false
set_option maxRecDepth 100000
section
namespace Hd
open PySem PySem.W PyProof.Rows
lay_quick PySem.W.topFrom
noncomputable abbrev TQ := PySem.W.Fast.tw370005188180407882 PySem.W.Fast.tw14364793385576792824
noncomputable abbrev OQ := PySem.W.Fast.tw4187177175401517315
noncomputable abbrev tp : Program := PySem.Challenge.pw_stopglass_k25_whole_walks
abbrev lo : List Str := [PySem.Str.ofString "ATOM_PLACES"]
def keeps : PySem.Stmt → Bool
 | .Assign [.Name x _] _ _ => !decide (x = "__name__")
 | _ => true
def viewOf (p : Program) : Program := { p with main := { p.main with body := p.main.body.filter keeps } }
abbrev Xf : Program → Shared → Bool := (fun p s => xlAt (viewOf p) [] s && recOk (RowW.records (OpenRow.toRowW (OpenLaw.row PySem.Challenge.rw_stopglass_k25_whole_walks))) s)
noncomputable def S0 (w : World) (os : OsState) : Shared := ⟨boot_heap w.params, Array.mk [], boot_drawn, boot_toks, os⟩
theorem ws : PySem.Challenge.rw_stopglass_k25_whole_walks.wellSaid = true := by kernel_rfl
section
local macro_rules | `(tactic| o_head $H) => `(tactic| (case Hk => exact $H))
noncomputable def hk : (H : Hook) ×' ((∀ P : Prop, P) → PySem.Challenge.rw_stopglass_k25_whole_walks.Holds) := by
 refine ⟨?Hk, fun h => ?m⟩
 rotate_left
 w_on; refine holds_law ws fun said => ?_; k_head; exact h _
end
noncomputable def fs {α β : Type} (x : α × β) : α := Prod.rec (fun a _ => a) x
noncomputable def sn {α β : Type} (x : α × β) : β := Prod.rec (fun _ b => b) x
def tk {α : Type} : Nat → List α → List α
 | 0, _ => []
 | _ + 1, [] => []
 | n + 1, a :: l => a :: tk n l
def dk {α : Type} : Nat → List α → List α
 | 0, l => l
 | _ + 1, [] => []
 | n + 1, _ :: l => dk n l
theorem tk_eq {α : Type} : ∀ (n : Nat) (l : List α), tk n l = l.take n
 | 0, _ => rfl
 | _ + 1, [] => rfl
 | n + 1, a :: l => congrArg (a :: ·) (tk_eq n l)
theorem dk_eq {α : Type} : ∀ (n : Nat) (l : List α), dk n l = l.drop n
 | 0, _ => rfl
 | _ + 1, [] => rfl
 | n + 1, _ :: l => dk_eq n l
theorem opt11 {σ a1 a2 a3 a4 a5 a6 a7 a8 ρ δ : Type} {x : Option σ} {f : σ → a1 × a2 × a3 × a4 × a5 × a6 × a7 × a8 × ρ} {v : a1 × a2 × a3 × a4 × a5 × a6 × a7 × a8 × ρ} {g : σ → List δ} {c : List δ} {n : Nat}
 (hB : x.map (fun s => ((f s).1, (f s).2.1, (f s).2.2.1, (f s).2.2.2.2.1, (f s).2.2.2.2.2.2.1, (f s).2.2.2.2.2.2.2.1)) = some (fs v, fs (sn v), fs (sn (sn v)), fs (sn (sn (sn (sn v)))), fs (sn (sn (sn (sn (sn (sn v)))))), fs (sn (sn (sn (sn (sn (sn (sn v)))))))))
 (hC : x.map (fun s => (f s).2.2.2.2.2.1) = some (fs (sn (sn (sn (sn (sn v)))))))
 (hD : x.map (fun s => ((f s).2.2.2.1, (f s).2.2.2.2.2.2.2.2)) = some (fs (sn (sn (sn v))), (sn (sn (sn (sn (sn (sn (sn (sn v))))))))))
 (hE : x.map (fun s => List.take n (g s)) = some (tk n c)) (hF : x.map (fun s => List.drop n (g s)) = some (dk n c)) : x.map (fun s => (f s, g s)) = some (v, c) := by
 cases x with
 | none => cases hE
 | some s =>
  have eB := Option.some.inj hB
  have eD := Option.some.inj hD
  have key : ∀ u w : a1 × a2 × a3 × a4 × a5 × a6 × a7 × a8 × ρ, u.1 = fs w → u.2.1 = fs (sn w) → u.2.2.1 = fs (sn (sn w)) → u.2.2.2.1 = fs (sn (sn (sn w))) → u.2.2.2.2.1 = fs (sn (sn (sn (sn w)))) → u.2.2.2.2.2.1 = fs (sn (sn (sn (sn (sn w))))) → u.2.2.2.2.2.2.1 = fs (sn (sn (sn (sn (sn (sn w)))))) → u.2.2.2.2.2.2.2.1 = fs (sn (sn (sn (sn (sn (sn (sn w))))))) → u.2.2.2.2.2.2.2.2 = sn (sn (sn (sn (sn (sn (sn (sn w))))))) → u = w := by
   rintro ⟨u1, u2, u3, u4, u5, u6, u7, u8, ur⟩ ⟨v1, v2, v3, v4, v5, v6, v7, v8, vr⟩ h1 h2 h3 h4 h5 h6 h7 h8 h9
   cases h1; cases h2; cases h3; cases h4; cases h5; cases h6; cases h7; cases h8; cases h9
   rfl
  have ef : f s = v := key _ _ (congrArg (fun z => z.1) eB) (congrArg (fun z => z.2.1) eB) (congrArg (fun z => z.2.2.1) eB) (congrArg (fun z => z.1) eD) (congrArg (fun z => z.2.2.2.1) eB) (Option.some.inj hC) (congrArg (fun z => z.2.2.2.2.1) eB) (congrArg (fun z => z.2.2.2.2.2) eB) (congrArg (fun z => z.2) eD)
  show some (f s, g s) = _
  have eE : List.take n (g s) = List.take n c := (Option.some.inj hE).trans (tk_eq n c)
  have eF : List.drop n (g s) = List.drop n c := (Option.some.inj hF).trans (dk_eq n c)
  have eg : g s = c := by rw [← List.take_append_drop n (g s), ← List.take_append_drop n c, eE, eF]
  rw [ef, eg]
theorem r1b : ∀ (w : World) (os : OsState), (TQ tp (w.withFollow "special-get-raises" true) 20000 (S0 (w.withFollow "special-get-raises" true) os)).map (fun s => ((OQ (viewOf tp) lo (importedModules tp.main.body) (Xf tp) true s).1, (OQ (viewOf tp) lo (importedModules tp.main.body) (Xf tp) true s).2.1, (OQ (viewOf tp) lo (importedModules tp.main.body) (Xf tp) true s).2.2.1, (OQ (viewOf tp) lo (importedModules tp.main.body) (Xf tp) true s).2.2.2.2.1, (OQ (viewOf tp) lo (importedModules tp.main.body) (Xf tp) true s).2.2.2.2.2.2.1, (OQ (viewOf tp) lo (importedModules tp.main.body) (Xf tp) true s).2.2.2.2.2.2.2.1)) = some ((fs (openGood (viewOf tp) lo)), (fs (sn (openGood (viewOf tp) lo))), (fs (sn (sn (openGood (viewOf tp) lo)))), (fs (sn (sn (sn (sn (openGood (viewOf tp) lo)))))), (fs (sn (sn (sn (sn (sn (sn (openGood (viewOf tp) lo)))))))), (fs (sn (sn (sn (sn (sn (sn (sn (openGood (viewOf tp) lo)))))))))) := by
 intro w os; kernel_rfl
theorem r0b : ∀ (w : World) (os : OsState), (TQ tp (w.withFollow "special-get-raises" false) 20000 (S0 (w.withFollow "special-get-raises" false) os)).map (fun s => ((OQ (viewOf tp) lo (importedModules tp.main.body) (Xf tp) true s).1, (OQ (viewOf tp) lo (importedModules tp.main.body) (Xf tp) true s).2.1, (OQ (viewOf tp) lo (importedModules tp.main.body) (Xf tp) true s).2.2.1, (OQ (viewOf tp) lo (importedModules tp.main.body) (Xf tp) true s).2.2.2.2.1, (OQ (viewOf tp) lo (importedModules tp.main.body) (Xf tp) true s).2.2.2.2.2.2.1, (OQ (viewOf tp) lo (importedModules tp.main.body) (Xf tp) true s).2.2.2.2.2.2.2.1)) = some ((fs (openGood (viewOf tp) lo)), (fs (sn (openGood (viewOf tp) lo))), (fs (sn (sn (openGood (viewOf tp) lo)))), (fs (sn (sn (sn (sn (openGood (viewOf tp) lo)))))), (fs (sn (sn (sn (sn (sn (sn (openGood (viewOf tp) lo)))))))), (fs (sn (sn (sn (sn (sn (sn (sn (openGood (viewOf tp) lo)))))))))) := by
 intro w os; kernel_rfl
theorem r1c : ∀ (w : World) (os : OsState), (TQ tp (w.withFollow "special-get-raises" true) 20000 (S0 (w.withFollow "special-get-raises" true) os)).map (fun s => (OQ (viewOf tp) lo (importedModules tp.main.body) (Xf tp) true s).2.2.2.2.2.1) = some ((fs (sn (sn (sn (sn (sn (openGood (viewOf tp) lo)))))))) := by
 intro w os; kernel_rfl
theorem r0c : ∀ (w : World) (os : OsState), (TQ tp (w.withFollow "special-get-raises" false) 20000 (S0 (w.withFollow "special-get-raises" false) os)).map (fun s => (OQ (viewOf tp) lo (importedModules tp.main.body) (Xf tp) true s).2.2.2.2.2.1) = some ((fs (sn (sn (sn (sn (sn (openGood (viewOf tp) lo)))))))) := by
 intro w os; kernel_rfl
theorem r1e : ∀ (w : World) (os : OsState), (TQ tp (w.withFollow "special-get-raises" true) 20000 (S0 (w.withFollow "special-get-raises" true) os)).map (fun s => List.take 300 (Hook.obs hk.1 s : List (Option Obj))) = some (tk 300 (Hook.val hk.1 (w.withFollow "special-get-raises" true) : List (Option Obj))) := by
 intro w os; kernel_rfl
theorem r0e : ∀ (w : World) (os : OsState), (TQ tp (w.withFollow "special-get-raises" false) 20000 (S0 (w.withFollow "special-get-raises" false) os)).map (fun s => List.take 300 (Hook.obs hk.1 s : List (Option Obj))) = some (tk 300 (Hook.val hk.1 (w.withFollow "special-get-raises" false) : List (Option Obj))) := by
 intro w os; kernel_rfl
theorem r1f : ∀ (w : World) (os : OsState), (TQ tp (w.withFollow "special-get-raises" true) 20000 (S0 (w.withFollow "special-get-raises" true) os)).map (fun s => List.drop 300 (Hook.obs hk.1 s : List (Option Obj))) = some (dk 300 (Hook.val hk.1 (w.withFollow "special-get-raises" true) : List (Option Obj))) := by
 intro w os; kernel_rfl
theorem r0f : ∀ (w : World) (os : OsState), (TQ tp (w.withFollow "special-get-raises" false) 20000 (S0 (w.withFollow "special-get-raises" false) os)).map (fun s => List.drop 300 (Hook.obs hk.1 s : List (Option Obj))) = some (dk 300 (Hook.val hk.1 (w.withFollow "special-get-raises" false) : List (Option Obj))) := by
 intro w os; kernel_rfl
theorem r1d : ∀ (w : World) (os : OsState), (TQ tp (w.withFollow "special-get-raises" true) 20000 (S0 (w.withFollow "special-get-raises" true) os)).map (fun s => ((OQ (viewOf tp) lo (importedModules tp.main.body) (Xf tp) true s).2.2.2.1, (OQ (viewOf tp) lo (importedModules tp.main.body) (Xf tp) true s).2.2.2.2.2.2.2.2)) = some ((fs (sn (sn (sn (openGood (viewOf tp) lo))))), (sn (sn (sn (sn (sn (sn (sn (sn (openGood (viewOf tp) lo)))))))))) := by
 intro w os; kernel_rfl
theorem r0d : ∀ (w : World) (os : OsState), (TQ tp (w.withFollow "special-get-raises" false) 20000 (S0 (w.withFollow "special-get-raises" false) os)).map (fun s => ((OQ (viewOf tp) lo (importedModules tp.main.body) (Xf tp) true s).2.2.2.1, (OQ (viewOf tp) lo (importedModules tp.main.body) (Xf tp) true s).2.2.2.2.2.2.2.2)) = some ((fs (sn (sn (sn (openGood (viewOf tp) lo))))), (sn (sn (sn (sn (sn (sn (sn (sn (openGood (viewOf tp) lo)))))))))) := by
 intro w os; kernel_rfl
theorem r0 : ∀ (w : World) (os : OsState), (TQ tp (w.withFollow "special-get-raises" false) 20000 (S0 (w.withFollow "special-get-raises" false) os)).map (fun s => ((OQ (viewOf tp) lo (importedModules tp.main.body) (Xf tp) true s), Hook.obs hk.1 s)) = some ((openGood (viewOf tp) lo), Hook.val hk.1 (w.withFollow "special-get-raises" false)) := fun w os => opt11 (r0b w os) (r0c w os) (r0d w os) (r0e w os) (r0f w os)
theorem r1 : ∀ (w : World) (os : OsState), (TQ tp (w.withFollow "special-get-raises" true) 20000 (S0 (w.withFollow "special-get-raises" true) os)).map (fun s => ((OQ (viewOf tp) lo (importedModules tp.main.body) (Xf tp) true s), Hook.obs hk.1 s)) = some ((openGood (viewOf tp) lo), Hook.val hk.1 (w.withFollow "special-get-raises" true)) := fun w os => opt11 (r1b w os) (r1c w os) (r1d w os) (r1e w os) (r1f w os)
theorem left_twin {p p' : Program} {F : Program → Program} {X : Program → Shared → Bool} {loose : List Str} {α : Type} {Yf : Shared → α} {Ya : World → α} {N : Nat} {g0 : Bool} (row : String) (ep : p = p') (e : opening p = plainProg p.main.scope.names) (hN : Nat.ble 600 N = true) (f : ∀ s, fenceModules? p s = some s)
  (h0 : ∀ (w : World) (os : OsState), (TQ p' (w.withFollow row false) N (S0 (w.withFollow row false) os)).map (fun s => (OQ (F p') loose (importedModules p'.main.body) (X p') g0 s, Yf s)) = some (openGood (F p') loose, Ya (w.withFollow row false)))
  (h1 : ∀ (w : World) (os : OsState), (TQ p' (w.withFollow row true) N (S0 (w.withFollow row true) os)).map (fun s => (OQ (F p') loose (importedModules p'.main.body) (X p') g0 s, Yf s)) = some (openGood (F p') loose, Ya (w.withFollow row true))) : LeftO p (F p) loose (X p) Yf Ya N g0 := fun w => by
 subst ep
 have key : ∀ b, (openEnds treeTable p (w.withFollow row b) N).map (fun s => (openSeen (F p) loose (importedModules p.main.body) (X p) g0 s, Yf s)) = some (openGood (F p) loose, Ya (w.withFollow row b)) := by
  intro b
  obtain ⟨s, hs, hv⟩ := Option.map_eq_some_iff.mp (boot_open e hN f (w.withFollow row b))
  have es : s = S0 (w.withFollow row b) s.os := by
   cases s
   simp only [Prod.mk.injEq] at hv
   obtain ⟨a1, a2, a3, a4⟩ := hv
   subst a1 a2 a3 a4
   rfl
  unfold openEnds
  rw [hs, es, PySem.W.Fast.te370005188180407882, PySem.W.Fast.te14364793385576792824, PySem.W.Fast.te4187177175401517315]
  cases b
  . exact h0 w s.os
  . exact h1 w s.os
 have e0 := World.withFollow_self w row
 have := key (w.params.followText row)
 rwa [e0] at this
theorem left : LeftO PySem.Challenge.pw_stopglass_k25_whole_walks (viewOf PySem.Challenge.pw_stopglass_k25_whole_walks) lo (Xf PySem.Challenge.pw_stopglass_k25_whole_walks) (Hook.obs hk.1) (Hook.val hk.1) 20000 true :=
 left_twin (p := PySem.Challenge.pw_stopglass_k25_whole_walks) (p' := tp) (F := viewOf) (X := Xf) (loose := lo) (Yf := Hook.obs hk.1) (Ya := Hook.val hk.1) (N := 20000) (g0 := true) "special-get-raises" rfl (by kernel_rfl) (by decide) (fun s => by kernel_rfl) r0 r1
theorem left_of {H : Hook} (e : H = hk.1) : LeftO PySem.Challenge.pw_stopglass_k25_whole_walks (viewOf PySem.Challenge.pw_stopglass_k25_whole_walks) lo (Xf PySem.Challenge.pw_stopglass_k25_whole_walks) (Hook.obs H) (Hook.val H) 20000 true := by subst e; exact left
local macro_rules | `(tactic| o_head $H) => `(tactic| (
 refine holds_open (q := viewOf PySem.Challenge.pw_stopglass_k25_whole_walks) (loose := lo) (Xt := Xf PySem.Challenge.pw_stopglass_k25_whole_walks) (XP := XL (viewOf PySem.Challenge.pw_stopglass_k25_whole_walks) []) (Yf := Hook.obs $H) (Ya := Hook.val $H) (YP := Hook.says $H) (N := 20000) ?hl (Hook.of $H) (Hook.keeps $H) (fun s e => xl_of s (Bool.and_eq_true_iff.mp e).1) XL.keeps (by rfl) (by rfl) (by rfl) (fun s e => recFacts_of (Bool.and_eq_true_iff.mp e).2) (by rfl) (by assumption) (by decide +kernel) ⟨rfl, rfl, rfl, rfl, rfl, by decide +kernel⟩ ?hw ?hc
 (case hl => exact left_of (H := $H) (by kernel_rfl))))
set_option maxHeartbeats 0 in
noncomputable def pk : (G : Prop) ×' (G → PySem.Challenge.rw_stopglass_k25_whole_walks.Holds) := by
 refine' ⟨_, fun h => _⟩
 rotate_left
 w_on; refine holds_law ws fun said => ?_; k_head; (case hw => w_witness2)
 exact h
end Hd
end
open List renaming length_map->Go,length_append->Gv,map_append->Gy,mem_cons_of_mem->Gz,mem_singleton->HG,mem_cons_self->HH,mem_cons->HM,mem_append_right->HS,mem_append->HW,mem_map->HX,size_toArray->HZ,not_mem_nil->Hh,length_take->Hl,map_cons->Hn,length_singleton->Hr,length_cons->Hs,foldl_cons->Hv,mem_append_left->Hx,take_add_one->Hz,foldl_append->IC,map_map->IG,length_replicate->IH,nodup_append->IJ,eq_nil_of_length_eq_zero->IK,take_length->IP,flatten_replicate_singleton->IQ,eq_nil_or_concat->IR,concat_eq_append->IS,take_of_length_le->IZ,append_nil->Ig,length_nil->Ih,replicate_succ->Ii,lookup_cons->Ik,mem_of_mem_take->Ir,append_assoc->Iv,length_zip->J0,getElem_mem->J5,length_eq_zero_iff->J6,mem_replicate->J9,any_cons->JE,nodup_cons->JG,of_mem_zip->JH,forIn_cons->JI,map_nil->JM,map_replicate->JQ,nodup_nil->JS,flatten_cons->JX,drop_eq_nil_of_le->Jf,length_drop->Jg,all_eq_true->Jh,zipIdx_cons->Ji,any_eq_true->Jl,length_set->Jt,zipIdx_nil->Jv,dropLast_concat->Jx,filterMap_cons->Jz,length_reverse->K0,length_pos_iff->K1,mem_range->K2,forIn_nil->K5,mem_filterMap->K6,zip_cons_cons->K9,map_take->KF,reverse_cons->KH,flatMap_cons->KJ,drop_eq_getElem_cons->KL,mem_flatMap->KR
open PySem renaming wpAny_bind->Gp,wpAny_pure->HL,wpAny_field->IA,wpAny_setField_rec->IL,wpAny_seqItems->IN,wpAny_holding->IU,wpAny_pyIter_list->IV,wpAny_call_entry->IW,wpAny_truthy_bool->Ic,wpAny_pyIter_tuple->Il,wpAny_newObj_type->Iu,wpAny_passesOwn->Iy,wpAny_onRaise->J2,wpAny_nextOf_list_item->JA,wpAny_Call_Name_kw->JJ,wpAny_mono->JR,wpAny_rule->JT,wpAny_pyIter_enum->JY,wpAny_pyNext_list_item->Jc,wpAny_letGo->Jd,wpAny_pyIter_zip->Jk,wpAny_isTrue_Compare1->Jn,wpAny_pyNext_list_end->Jo,wpAny_execs_nil->Jr,wpAny_typeOf->Js,wpAny_updateSeq_pair->Jw,wpAny_standAt->KA,wpAny_letOwnedTupleGo_enum->KC,wpAny_attempt->KD,wpAny_sequenceKey->KG,wpAny_letOwnedTupleGo_zip->KM,wpAny_execs_cons->KN,codeAny_mono->KO,wpAny_Call_method0_late->KU,wpAny_pyNext_enum_itemD->KY
open Nat renaming le_refl->Gw,le_trans->Hf,lt_of_lt_of_le->Hi,zero_le->Hj,lt_or_ge->Hk,ne_of_lt->Hu,lt_irrefl->ID,le_of_lt->IE,lt_of_le_of_lt->Ib,ne_of_gt->Ij,lt_succ_self->Iw,not_lt_zero->Iz,le_succ->JF,le_succ_of_le->Ja,mod_two_eq_zero_or_one->KE,le_add_right->KQ
open PySem.F renaming plainAttrs_list->HK,slot_list_append->HP,type_list_append->HQ,slot_zip_next->Iq,slot_tuple_iterator_next->J1,slot_list_pop->JC,type_list_pop->JD,slot_list_getattribute->JN,slot_list_extend->JO,type_list_extend->JP,plainAttrs_dict->JU,slot_list_clear->JV,type_list_clear->JW,args_zip_next_1->JZ,entry_zip_next->Jj,slot_dict_get->Jq,slot_dict_itemiterator_iter->Jy,args_tuple_iterator_next_1->K3,slot_dict_setdefault->K4,entry_tuple_iterator_next->K8,args_tuple_add_2->KP,entry_tuple_add->KS,args_dict_get_3->KW,slot_dict_items->KZ
open PySem.Heap renaming lt_size->HU,size_push->IM
open Bool renaming false_ne_true->Hd,and_eq_true->Ho,eq_iff_iff->Ip,false_eq_true->K7,or_eq_true->Ka,or_false->Kc
open Int renaming toNat_natCast->Hm,eq_ofNat_of_zero_le->J7,fdiv_eq_ediv_of_nonneg->KB
open PyProof.Rows renaming callWith_type1->IF,slot_tuple_getitem->IT,bitOr_and->Je
open Option renaming map_eq_some_iff->Ix,isSome_iff_exists->JK,bind_some->Jm,map_some->Ju
abbrev Gq:=@List.getElem?_eq_some_iff
abbrev Gr:=@PySem.Heap.get?_push_of_some
abbrev Gu:=@if_neg
abbrev HI:=@if_pos
abbrev HJ:=@decide_eq_true
abbrev HN:=@List.getElem?_eq_getElem
abbrev HR:=@PySem.Heap.get?_push_size
abbrev HV:=@List.getElem?_map
abbrev HY:=@congrArg
abbrev He:=@List.mem_of_getElem?
abbrev Hg:=@decide_eq_false
abbrev Ht:=@of_decide_eq_true
abbrev Hy:=@List.getElem?_of_mem
abbrev IB:=@List.getElem?_append_left
abbrev II:=@List.getElem?_append_right
abbrev IX:=@List.getD_eq_getElem?_getD
abbrev Ia:=@List.mem_of_mem_head?
abbrev Ie:=@decide_eq_true_eq
abbrev Im:=@List.getElem?_eq_none
abbrev Io:=@List.getElem?_zip_eq_some
abbrev J3:=@List.getElem?_eq_none_iff
abbrev J4:=@List.getElem?_set_ne
abbrev J8:=@List.find?_cons
abbrev JB:=@List.getElem?_inj
abbrev JL:=@List.getElem?_take_of_lt
abbrev Jb:=@List.getElem?_set_self
abbrev Jp:=@PySem.Heap.get?_update_self
abbrev J':=@Array.length_toList
abbrev KI:=@List.ext_getElem?
abbrev Kb:=@beq_iff_eq
local macro_rules | `(tactic| walk_at "f") => `(tactic| (first|exact .inl rfl|exact .inr rfl|assumption))
local macro_rules | `(tactic| walk_at "s") => `(tactic| exact ⟨rfl, rfl, rfl, by decide +kernel, rfl, by decide +kernel, by decide +kernel⟩)

set_option genSizeOf false
set_option bootstrap.genMatcherCode false
set_option compiler.extract_closed false
section
open Lean in
local macro_rules(kind:=Lean.Parser.Command.declaration)|s=>do{let d:=s[1];if s[0].getArgs.any fun x=>!x.getArgs.isEmpty then{Macro.throwUnsupported};let q←`(command|noncomputable def x:=y);let r:Syntax←(match d.getKind with|``Parser.Command.definition=>pure (s.setArg 1 (mkNode ``Parser.Command.theorem #[mkAtom "theorem ",d[1],mkNode ``Parser.Command.declSig #[d[2][0],d[2][1][0]],d[3]]))|``Parser.Command.abbrev=>if d[3][1].isOfKind ``Parser.Term.explicit then Macro.throwUnsupported else pure (mkNode s.getKind #[q.raw[0],mkNode ``Parser.Command.definition #[mkAtom "def ",d[1],d[2],d[3],mkNullNode]])|_=>Macro.throwUnsupported);return r.rewriteBottomUp fun x=>x.setInfo .none}
local macro_rules|`(#[$x,*])=>do{if x.getElems.isEmpty then{return ← `(by decide)};let mut a:Array Lean.Term:= .empty;for e in x.getElems do{let l:=(e.raw.isLit? `num).getD "0";if l.front=='0' then{a:=a.push e}else{for c in(Nat.toDigits 2 l.toNat!).tail do{a:=a.push (← if c=='1' then`(rfl)else`(_))}}};`(⟨$a,*⟩)}
local macro_rules|`(∅)=>`(by lia)
local macro_rules|`(tactic|let#[$x,*]:=$e)=>do{let a←x.getElems.mapM fun|`(_)=>`(rcasesPat|_)|`($i:ident)=>`(rcasesPat|$i:ident)|_=>Lean.Macro.throwUnsupported;`(tactic|obtain⟨$[$a:rcasesPat],*⟩:=$e)}
local macro_rules|`(tactic|show#[$x,*])=>`(tactic|refine#[$x,*])
local macro_rules|`(⇑$x)=>`(some $x)|`(↑$x)=>`(by simpa using $x)|`(↥$x)=>`(.ref $x)
local macro_rules|`($a\$b)=>`(($a).trans $b)|`($a*>$b)=>`(($a).mono $b)|`($a<*$b)=>`(($a).tup $b)
set_option hygiene false in
local macro_rules|`(0x0)=>`((λ_ _=>rfl))|`(0x1)=>`(by rfl)|`(0x2)=>`((aM (show aR _ (aw K) from ax) (aC 0) aF 0x0))|`(0x3)=>`((Or.inl rfl))|`(0x4)=>`((show aR _ (bB K) from bC))|`(0x5)=>`(by walk_at "f")|`(0x6)=>`(by intro z; cases z)|`(0x7)=>`(by decide +kernel)|`(0x8)=>`((model X.prog X.w))|`(0x9)=>`((show bh _ (.builtin "len") (cm K) from cw))|`(0xA)=>`(by simp)|`(0xB)=>`((.Pass ⟨0,0,0,0⟩))|`(0xC)=>`((Sum.inr n:aE))
noncomputable abbrev Kd:=Option
noncomputable abbrev Ke:=PySem.Value
noncomputable abbrev Kf:=PySem.Shared
noncomputable abbrev Kg:=PySem.Addr
noncomputable abbrev Kh:=PySem.W.Frag
namespace K11
end K11
namespace L2
open PySem PySem.Spec PyProof.Rows
noncomputable abbrev aE:=Sum Int Str
abbrev i7:aE->Ke->Bool
 | .inl k,v=>Value.isInt k v
 | .inr x,v=>Value.isStrOf x v
abbrev zc (w:World):aE->Int
 | .inl k=>hashInt k
 | .inr x=>hashStr w x
def fK:∀{k:aE} {v:Ke},i7 k v=true->(∃i t,k=Sum.inl i/\v=Value.int i t)\/(∃x t,k=Sum.inr x/\v=Value.str x t)
 | .inl i,v,h=>by let#[t,e]:=Value.isInt_shape (k:=i) (v:=v) h;exact .inl #[i,t,rfl,e]
 | .inr x,v,h=>by let#[t,e]:=Value.isStrOf_shape (x:=x) (v:=v) h;exact .inr #[x,t,rfl,e]
def Bz (i:Int) (t:Tok):i7 (.inl i) (.int i t)=true:=by simp [i7,Value.isInt]
def Cj (x:Str) (t:Tok):i7 (.inr x) (.str x t)=true:=by simp [i7,Value.isStrOf]
def DG (a b:Int):decide ((Sum.inl a:aE)=Sum.inl b)=(a==b):=by
 by_cases e:a=b
 . subst e; simp
 . have h:¬ (Sum.inl a:aE)=Sum.inl b:=λq=>e (Sum.inl.inj q);rw[Hg h];exact(beq_eq_false_iff_ne.mpr e).symm
def EZ (a b:Str):decide ((Sum.inr a:aE)=Sum.inr b)=decide (a=b):=by
 by_cases e:a=b
 . subst e; simp
 . have h:¬ (Sum.inr a:aE)=Sum.inr b:=λq=>e (Sum.inr.inj q);rw[Hg h,Hg e]
def GE (a:Int) (b:Str):decide ((Sum.inl a:aE)=Sum.inr b)=false:=Hg (λq=>nomatch q)
def Bd (a:Str) (b:Int):decide ((Sum.inr a:aE)=Sum.inl b)=false:=Hg (λq=>nomatch q)
abbrev c7 (prog:Program) (w:World):PySem.KeyKind prog w aE where
 is:=i7
 hash:=zc w
 inj:=λv a b ha hb=>by
   rcases fK ha with⟨i,t,rfl,rfl⟩|⟨x,t,rfl,rfl⟩
   . rcases fK hb with⟨j,u,rfl,e⟩|⟨y,u,rfl,e⟩
     . injection e with e1 _; rw[e1]
     . exact nomatch e
   . rcases fK hb with⟨j,u,rfl,e⟩|⟨y,u,rfl,e⟩
     . exact nomatch e
     . injection e with e1 _; rw[e1]
 byValue:=λk v h=>by rcases fK h with⟨i,t,rfl,rfl⟩|⟨x,t,rfl,rfl⟩ <;> rfl
 pyHash:=λhv h=>by
   rcases fK hv with⟨i,t,rfl,rfl⟩|⟨x,t,rfl,rfl⟩
   . exact wpAny_pyHash_int h
   . exact wpAny_pyHash_str h
 eqBool:=λhu hv h=>by
   rcases fK hu with⟨i,t,rfl,rfl⟩|⟨x,t,rfl,rfl⟩
   . rcases fK hv with⟨j,u,rfl,rfl⟩|⟨y,u,rfl,rfl⟩
     . rw[DG] at h; exact wpAny_eqBool_int h
     . rw[GE] at h; exact SeqAt.EqAt.int_str i t y u _ _ _ _ h
   . rcases fK hv with⟨j,u,rfl,rfl⟩|⟨y,u,rfl,rfl⟩
     . rw[Bd] at h; exact SeqAt.EqAt.str_int x t j u _ _ _ _ h
     . rw[EZ] at h; exact wpAny_eqBool_str h
 «strs»:=λk x t v h=>by
   rcases fK h with⟨i,u,rfl,e⟩|⟨y,u,rfl,e⟩
   . exact nomatch e
   . injection e with e1 _
     subst e1;cases v <;> rfl
def Ce (prog:Program) (w:World) (i:Int) (t:Tok):(c7 prog w).is (.inl i) (.int i t)=true:=Bz i t
def Fu (prog:Program) (w:World) (x:Str) (t:Tok):(c7 prog w).is (.inr x) (.str x t)=true:=Cj x t
inductive V where
 | non|bl (b:Bool)|int (i:Int)|str (x:Str)|byt (b:Array UInt8)|flt (b:UInt64)|ref (a:Addr)|ty (n:String)
 deriving DecidableEq
abbrev ag:V->Ke->Prop
 | .non,u=>u=Value.none
 | .bl b,u=>u=Value.bool b
 | .int i,u=>∃t,u=Value.int i t
 | .str x,u=>∃t,u=Value.str x t
 | .byt b,u=>∃t,u=Value.bytes b t
 | .flt b,u=>∃t,u=Value.float b t
 | .ref a,u=>u=Value.ref a
 | .ty n,u=>u=Value.type n
noncomputable abbrev ae:List V->List Ke->Prop:=Paired ag
def ae.length {xs:List V} {us:List Ke} (r:ae xs us):xs.length=us.length:=Paired.length r
def ae.get:∀{xs:List V} {us:List Ke} {i:Nat} {x:V},ae xs us->xs[i]?=⇑x->∃u,us[i]?=⇑u/\ag x u:=by
 intro xs us i x h e
 induction h generalizing i with
 | nil=>simp at e
 | cons r t ih =>
   cases i with
   | zero=>simp at e; subst e; show#[5,r]
   | succ i =>
     let#[u,h1,h2]:=ih (i:=i) ↑e;show#[u,by simpa using h1,h2]
variable {u:Ke}
def ae.set {x:V} (r:ag x u):∀{xs:List V} {us:List Ke} (i:Nat),ae xs us->ae (xs.set i x) (us.set i u):=by
 intro xs us i h
 induction h generalizing i with
 | nil=>exact .nil
 | cons q t ih =>
   cases i with
   | zero=>exact .cons r t
   | succ i=>exact .cons q (ih i)
def ae.append:∀{xs ys:List V} {us ws:List Ke},ae xs us->ae ys ws->ae (xs++ys) (us++ws):=by
 intro xs ys us ws h s
 induction h with
 | nil=>exact s
 | cons r t ih=>exact .cons r ih
def ae.take:∀{xs:List V} {us:List Ke} (n:Nat),ae xs us->ae (xs.take n) (us.take n)
 | _,_,0,_=>.nil
 | _,_,_+1,.nil=>.nil
 | _,_,n+1,.cons r t=>.cons r (ae.take n t)
def ae.drop:∀{xs:List V} {us:List Ke} (n:Nat),ae xs us->ae (xs.drop n) (us.drop n)
 | _,_,0,r=>r
 | _,_,_+1,.nil=>.nil
 | _,_,n+1,.cons _ t=>ae.drop n t
def ae.none_of:∀{xs:List V} {us:List Ke} {i:Nat},ae xs us->xs[i]?=none->us[i]?=none:=λ{xs us i} r e=>by have h1:=r.length;have h2:xs.length<=i:=J3.mp e;exact J3.mpr ∅
abbrev dI:Kd V->Kd Ke->Prop
 | some v,⇑u=>ag v u
 | none,none=>True
 | _,_=>False
abbrev KV {κ:Type}:List (κ×V)->List (κ×Ke)->Prop:=Paired λ(p:κ×V) (q:κ×Ke)=>p.1=q.1/\ag p.2 q.2
abbrev kV:aE->V
 | .inl i=>.int i
 | .inr x=>.str x
inductive HO where
 | lst (xs:List V)
 | tup (xs:List V)
 | dK (kvs:List (aE×V))|dT (kvs:List (List aE×V))
 | set (S:Int->Bool) (n:Nat)
 | ins (C dx:Addr) (fs:List (Str×V))
 | own (x:Addr)
 | xd (fs:List (Str×V))
 | met (f x:Addr)
 | rng (lo hi:Int)
 | frz (o:Obj) (u:HO)
 | tbl (ps:Array Value)
 | ext (φ:Heap->Prop)
noncomputable abbrev Hp:=Kg->Kd HO
abbrev upd (H:Hp) (a:Kg) (o:HO):Hp:=λb=>if b=a then ⇑o else H b
variable {H:Hp} {a:Kg} {o:HO}
def aI :upd H a o a=⇑o:=by unfold upd; rw[HI rfl]
variable {b:Kg}
def aJ (h:b≠a):upd H a o b=H b:=by unfold upd; rw[Gu h]
def jf {u:HO}:upd (upd H a o) a u=upd H a u:=by funext b; unfold upd; split <;> rfl
def fR {u:HO}(h:H a=⇑o) (h':H b=⇑u) (d:o≠u):a≠b:=by intro e; subst e; rw[h] at h'; exact d (Option.some.inj h')
def dC (h:H a=⇑o) (h':H b=none):a≠b:=by intro e; subst e; rw[h] at h'; cases h'
section
variable (P:Program) (w:World)
abbrev cE (H:Hp) (h:Heap) (a:Kg):HO->Prop
 | .lst xs=>xs.length<=sizeLine/\∃(its:List Ke) (n:Nat),ae xs its/\h.get? a=some { cls:=.type "list",data:=.seq its.toArray n }
 | .tup xs=>xs.length<=sizeLine/\∃its:List Ke,ae xs its/\IsTup h a its.toArray
 | .dK kvs=>kvs.length<=sizeLine/\(a==sysModules)=false/\∃vs,KV kvs vs/\h.DictOf (c7 P w) a vs
 | .dT kvs=>kvs.length<=sizeLine/\(a==sysModules)=false/\∃xs:List (List aE×Kg×Ke),
     Paired (λ(p:List aE×V) (q:List aE×Kg×Ke)=>p.1=q.1/\H q.2.1=⇑(.tup (p.1.map kV))/\ag p.2 q.2.2) kvs xs /\
     ∃o es ep,h.get? a=⇑o/\o.ExactDict/\o.data=.dict es ep/\es.toList=xs.map (entryOfKey (tupleKind (c7 P w)))/\(xs.map (·.1)).Nodup
 | .set S n=>h.SetOf (intKind P w) a S n
 | .ins C dx fs=>H dx=⇑(.own a)/\fs.length<=1000/\dx≠a/\h.get? a=⇑(PySem.W.instObj C dx) /\
     ∃mA,h.Ns1 dx mA/\(∀f,dI (fs.lookup f) (mA f))/\PySem.Within mA (fs.map (·.1))
 | .own _=>∃o,h.get? a=⇑o
 | .xd fs=>∃mA,h.Ns1 a mA/\∀f,dI (fs.lookup f) (mA f)
 | .rng lo hi=>∃t u v,h.get? a=some { cls:=.type "range",data:=.fields (List.toArray [.int lo t,.int hi u,.int 1 v]) }
 | .frz o u=>h.get? a=⇑o/\cE H h a u
 | .tbl ps=>h.get? a=some { cls:=.none,data:=.fields ps }
 | .met f x=>h.get? a=⇑(PySem.W.methodObj ↥f ↥x)
 | .ext φ=>φ h/\(∃o,h.get? a=⇑o)/\∀h1 h2:Heap,φ h1->(∀o,h1.get? a=⇑o->h2.get? a=⇑o)->φ h2
abbrev cB (H:Hp) (h:Heap):Prop:=∀a o,H a=⇑o->cE P w H h a o
end
section
variable {P:Program} {w:World} {H H':Hp} {h h':Heap} {a:Kg} {o:HO}
def cE.lt (x:cE P w H h a o):a<h.objs.size:=by
 cases o with
 | lst xs=>let#[_,_,_,_,e]:=x; exact HU e
 | tup xs=>let#[_,_,_,p]:=x; exact p.lt
 | dK kvs=>let#[_,_,_,_,o,_,_,e,_]:=x; exact HU e
 | dT kvs=>let#[_,_,_,_,o,_,_,e,_]:=x; exact HU e
 | set S n=>let#[o,_,_,_,e,_]:=x; exact HU e
 | ins C dx fs=>let#[_,_,_,e,_]:=x; exact HU e
 | own y=>let#[_,e]:=x; exact HU e
 | xd fs=>obtain⟨_,⟨_,_,_,e,_⟩,_⟩:=x; exact HU e
 | rng lo hi=>let#[_,_,_,e]:=x; exact HU e
 | frz ob u=>let#[e,_]:=x; exact HU e
 | tbl ps=>exact HU (show h.get? a=⇑_ from x)
 | met f y=>exact HU (show h.get? a=⇑_ from x)
 | ext φ=>obtain⟨_,⟨_,e⟩,_⟩:=x; exact HU e
def Paired.mapP {α β:Type} {F G:α->β->Prop}:∀{l₁:List α} {l₂:List β},Paired F l₁ l₂->(∀a b,F a b->G a b)->Paired G l₁ l₂:=by
 intro l₁ l₂ h f
 induction h with
 | nil=>exact .nil
 | cons r t ih=>exact .cons (f _ _ r) ih
def cE.stay (x:cE P w H h a o) (k:∀b u,(b=a\/H b=⇑(.own a))->h.get? b=⇑u->h'.get? b=⇑u)
   (ho:∀b,H b=⇑(.own a)->H' b=⇑(.own a)) (ht:∀b xs,H b=⇑(.tup xs)->H' b=⇑(.tup xs)):cE P w H' h' a o:=by
 induction o with
 | lst xs=>let#[z,its,n,r,e]:=x; show#[z,its,n,r,k _ _ (.inl rfl) e]
 | tup xs=>let#[z,its,r,ob,e,c]:=x; show#[z,its,r,ob,k _ _ (.inl rfl) e,c]
 | dK kvs=>let#[z,y,vs,r,ob,es,ep,e,c]:=x; show#[z,y,vs,r,ob,es,ep,k _ _ (.inl rfl) e,c]
 | dT kvs =>
   let#[z,y,xs,r,ob,es,ep,e,c]:=x;show#[z,y,xs,Paired.mapP r λp q z=>#[z.1,ht _ _ z.2.1,z.2.2],ob,es,ep,k _ _ (.inl rfl) e,c]
 | set S n=>let#[ob,es,ep,t,e,c]:=x; show#[ob,es,ep,t,k _ _ (.inl rfl) e,c]
 | ins C dx fs =>
   obtain⟨d,z,ne,e,mA,⟨od,es,ep,e2,c⟩,r⟩:=x;show#[ho _ d,z,ne,k _ _ (.inl rfl) e,mA,#[od,es,ep,k _ _ (.inr d) e2,c],r]
 | own y=>let#[ob,e]:=x; show#[ob,k _ _ (.inl rfl) e]
 | xd fs=>obtain⟨mA,⟨od,es,ep,e,c⟩,r⟩:=x; show#[mA,#[od,es,ep,k _ _ (.inl rfl) e,c],r]
 | rng lo hi=>let#[t,u,v,e]:=x; show#[t,u,v,k _ _ (.inl rfl) e]
 | frz ob u ih=>let#[e,q]:=x; show#[k _ _ (.inl rfl) e,ih q]
 | tbl ps =>
   have e:h.get? a=some { cls:=.none,data:=.fields ps }:=x;show h'.get? a=some { cls:=.none,data:=.fields ps };exact k a _ (.inl rfl) e
 | met f y =>
   have e:h.get? a=⇑(PySem.W.methodObj ↥f ↥y):=x;show h'.get? a=⇑(PySem.W.methodObj ↥f ↥y);exact k a _ (.inl rfl) e
 | ext φ=>obtain⟨p,⟨o,e⟩,st⟩:=x; show#[st _ _ p λo q=>k _ _ (.inl rfl) q,#[o,k _ _ (.inl rfl) e],st]
def cB.lt (x:cB P w H h) (e:H a=⇑o):a<h.objs.size:=(x a o e).lt
def cB.fresh (x:cB P w H h) (e:h.objs.size<=a):H a=none:=by
 cases q:H a with
 | none=>rfl
 | some u=>exact absurd (Hi (x.lt q) e) (ID _)
def cB.kept (x:cB P w H h) (k:∀b u,h.get? b=⇑u->h'.get? b=⇑u):cB P w H h':=λa o e =>
 (x a o e).stay (λb u _ q=>k b u q) (λ_ q=>q) λ_ _ q=>q
def cB.laid (x:cB P w H h) (k:∀b u,h.get? b=⇑u->h'.get? b=⇑u) (hp:h.objs.size<=a) (new:cE P w (upd H a o) h' a o):cB P w (upd H a o) h':=λb u e=>by
 have hn:=x.fresh hp;by_cases hb:b=a
 . subst hb; rw[aI] at e; cases e; exact new
 . rw[aJ hb] at e;exact(x b u e).stay (λc v _ q=>k c v q) (λc q=>by rw[aJ (dC q hn)]; exact q) λc xs q=>by rw[aJ (dC q hn)]; exact q
end
abbrev Rd (H:Hp) (a:Kg) (u:HO):Prop:=H a=⇑u\/∃o,H a=⇑(.frz o u)
variable {P:Program} {w:World} {h:Heap}
def Rd.ok {u:HO} (r:Rd H a u) (x:cB P w H h):cE P w H h a u:=by
 rcases r with r|⟨o,r⟩
 . exact x a u r
 . let#[_,q]:=x a _ r;exact q
abbrev jy:Kd HO->Prop
 | some (.lst _)=>True
 | some (.dK _)=>True
 | some (.dT _)=>True
 | some (.set _ _)=>True
 | some (.ins _ _ _)=>True
 | some (.ext _)=>True
 | _=>False
section
variable {P:Program} {w:World} {H:Hp} {h h':Heap} {x e:Kg} {o':HO}
def cB.write (ok:cB P w H h) (mu:jy (H x)) (he:e=x\/H e=⇑(.own x)) (k:∀b u,b≠e->h.get? b=⇑u->h'.get? b=⇑u) (heo:∃u,h'.get? e=⇑u)
   (new:cE P w (upd H x o') h' x o'):cB P w (upd H x o') h':=λb u q=>by
 have nown:∀c y,H c=⇑(.own y)->c≠x:=λc y r z=>by subst z; rw[r] at mu; exact mu
 have ntup:∀c xs,H c=⇑(.tup xs)->c≠x:=λc xs r z=>by subst z; rw[r] at mu; exact mu
 by_cases hb:b=x
 . subst hb; rw[aI] at q; cases q; exact new
 . rw[aJ hb] at q;by_cases hbe:b=e
   . have q':H b=⇑(.own x):=by
       rcases he with z|z
       . exact absurd (hbe\z) hb
       . rw[hbe]; exact z
     rw[q] at q'; cases q';let#[v,hv]:=heo;show#[v,by rw[hbe]; exact hv]
   . refine(ok b u q).stay (λc v hc r=>k c v ?_ r) (λc r=>by rw[aJ (nown c b r)]; exact r) λc xs r=>by rw[aJ (ntup c xs r)]; exact r
     rcases hc with rfl|hc
     . exact hbe
     . rintro rfl;rcases he with z|z
       . exact nown c b hc z
       . rw[hc] at z; cases z; exact hb rfl
end
structure Un (fs ex:List Addr) (H H':Hp) (h h':Heap):Prop where
 keep:∀b o,h.get? b=⇑o->H b=none->b ∉ fs->b ∉ ex->h'.get? b=⇑o
 slot:∀b o,h.get? b=⇑o->H b=none->b∈fs->b ∉ ex->∃sl,h'.get? b=some { o with slots:=sl }
 free:∀b o,h.get? b=⇑o->H b=none->b ∉ ex->H' b=none
 there:∀b o,h.get? b=⇑o->b ∉ ex->∃o',h'.get? b=⇑o'
 tups:∀b xs,H b=⇑(.tup xs)->H' b=⇑(.tup xs)
 frzs:∀b o u,H b=⇑(.frz o u)->H' b=⇑(.frz o u)
 tbls:∀b ps,H b=⇑(.tbl ps)->∃more,H' b=⇑(.tbl (ps++more))
section
variable {fs fs' ex ex':List Kg} {H H1 H2:Hp} {h h1 h2 h':Heap} {a x e:Kg} {o:HO}
def Un.any (u:Un fs ex H H1 h h1) {ob:Obj} (q:h.get? b=⇑ob) (n:H b=none) (hx:b ∉ ex):∃sl,h1.get? b=some { ob with slots:=sl }:=by
 by_cases hb:b∈fs
 . exact u.slot b ob q n hb hx
 . show#[ob.slots,u.keep b ob q n hb hx]
def Un.kept (k:∀b u,h.get? b=⇑u->h'.get? b=⇑u):Un fs ex H H h h' :=
 #[λb ob q _ _ _=>k b ob q,λb ob q _ _ _=>#[ob.slots,k b ob q],λ_ _ _ n _=>n,λb ob q _=>#[ob,k b ob q],λ_ _ q=>q,λ_ _ _ q=>q,λ_ ps q=>#[(List.toArray []),by rw[q]; simp]]
def Un.refl:Un fs ex H H h h:=Un.kept λ_ _ q=>q
def Un.laid (k:∀b u,h.get? b=⇑u->h'.get? b=⇑u) (hp:h.objs.size<=a) (hn:H a=none):Un fs ex H (upd H a o) h h' where
 keep:=λb u q _ _ _=>k b u q
 slot:=λb u q _ _ _=>#[u.slots,k b u q]
 free:=λb u q n _=>by rw[aJ (Hu (Hi (HU q) hp))]; exact n
 there:=λb u q _=>#[u,k b u q]
 tups:=λb xs q=>by rw[aJ (dC q hn)]; exact q
 frzs:=λb u xs q=>by rw[aJ (dC q hn)]; exact q
 tbls:=λb ps q=>#[(List.toArray []),by rw[aJ (dC q hn),q]; simp]
def Un.write (mu:jy (H x)) (he:e=x\/H e=⇑(.own x)) (k:∀b u,b≠e->h.get? b=⇑u->h'.get? b=⇑u) (heo:∃u,h'.get? e=⇑u):Un fs ex H (upd H x o) h h':=by
 have hx:∀b,H b=none->b≠x:=λb n z=>by subst z; rw[n] at mu; exact mu
 have hb:∀b,H b=none->b≠e:=λb n z=>by
   subst z;rcases he with r|r
   . exact hx b n r
   . rw[n] at r; cases r
 have hm:∀b u,H b=⇑u->¬ jy ⇑u->b≠x:=λb u q nm z=>by subst z; rw[q] at mu; exact nm mu
 show#[λb u q n _ _=>k b u (hb b n) q,λb u q n _ _=>#[u.slots,k b u (hb b n) q],λb u q n _=>by rw[aJ (hx b n)]; exact n,λb u q _=>?_,
   λb xs q=>by rw[aJ (hm b _ q λz=>z)]; exact q,λb u xs q=>by rw[aJ (hm b _ q λz=>z)]; exact q,λb ps q=>#[(List.toArray []),by rw[aJ (hm b _ q λz=>z),q]; simp]]
 by_cases hbe:b=e
 . subst hbe; exact heo
 . show#[u,k b u hbe q]
end
abbrev lU (h:Heap) (H:Hp):List Kg:=(List.range h.objs.size).filter λa=>(H a).isSome
abbrev fY (h:Heap) (H:Hp):Heap:=PySem.W.hideAll h (lU h H)
def Dx (h:Heap) (H:Hp):(fY h H).objs.size=h.objs.size:=PySem.W.hideAll_size _ _
def Ge {o:Obj} (e:h.get? b=⇑o) (n:H b=none):(fY h H).get? b=⇑o :=
 PySem.W.hideAll_get _ e λhm=>by have q:(H b).isSome=true:=(List.mem_filter.mp hm).2;rw[n] at q; simp at q
def Bj {o:Obj} (e:(fY h H).get? b=⇑o):h.get? b=⇑o/\H b=none:=by
 have e':h.get? b=⇑o:=PySem.W.of_hideAll (lU h H) e;show#[e',?_];cases q:H b with
 | none=>rfl
 | some x =>
   have hm:b∈lU h H:=List.mem_filter.mpr #[K2.mpr (HU e'),by simp [q]];have z:(fY h H).get? b=none:=PySem.W.hideAll_none (lU h H) hm;rw[z] at e; cases e
structure Mod (K:W.Frag) (mg:Str->Option Value) (base:Heap):Prop where
 kin:K.In base
 glob:base.Ns mainGlobals mg
 blt:∃mb,base.Ns builtinsNs mb/\∀x:Str,x≠"__name__"->mb x=bootBuiltins x
 nolimit:base.NoLimit
structure Cx where
 prog:Program
 w:World
 K:W.Frag
 mg:Str->Option Value
 base:Heap
 A:Around
 N:List Str
 s₀:Shared
 H₀:Hp
 env:Env
 outer:List Env
 stack:List Env
 ex:List Addr
 fn:Str->Bool
 calm:Bool
 pn:List (Addr×Obj)
 xe:Value->Shared->Prop
abbrev eT (l:List Env):List Kg:=l.filterMap (·.frame)
noncomputable abbrev Cx.fs (X:Cx):List Kg:=eT X.outer
abbrev mD (sc:Scope) (x:Str):Prop:=sc.names.lookup x=some .local\/sc.names.lookup x=some .cell\/sc.names.lookup x=some .free
abbrev jg (sc:Scope) (x:Str):Prop:=sc.names.lookup x=some .local\/sc.names.lookup x=some .cell
abbrev zi (env:Env) (h:Heap) (m:Str->Kd Ke) (x:Str) (u:Ke):Prop :=
 (env.kindOf x=some .local/\m x=⇑u)\/((env.kindOf x=some .cell\/env.kindOf x=some .free)/\∃c,env.cells.lookup x=⇑c/\h.IsCell c ⇑u)
structure Cx.Ok (X:Cx):Prop where
 mod:Mod X.K X.mg X.base
 kind:X.env.scope.kind=.function
 glob:X.env.globals=mainGlobals
 blt:X.env.builtins=builtinsNs
 above:X.s₀.heap.objs.size<=X.env.locals
 inj:∀x y c,X.env.cells.lookup x=⇑c->X.env.cells.lookup y=⇑c->x=y
 has:∀x,(X.env.kindOf x=some .cell\/X.env.kindOf x=some .free)->∃c,X.env.cells.lookup x=⇑c
 cab:∀x c,X.fn x=true->X.env.cells.lookup x=⇑c->X.s₀.heap.objs.size<=c
 hd:X.calm=true->X.A.handled=none
 frames:X.A.frames=⇑X.stack
 stk:X.stack=X.outer\/(X.stack=X.env::X.outer/\X.env.frame=⇑X.env.locals)
 exf:∀b∈X.ex,b≠X.env.locals/\∀x c,X.env.cells.lookup x=⇑c->c≠b
 bs:∀b o,X.base.get? b=⇑o->X.s₀.heap.get? b=⇑o/\X.H₀ b=none
 bsz:X.base.objs.size<=X.s₀.heap.objs.size
 noex:∀b o,X.base.get? b=⇑o->b ∉ X.ex
 exfs:∀b∈X.ex,b ∉ X.fs
 funs:X.s₀.heap.FunFrames X.base X.outer
 frf:∀b∈X.fs,X.H₀ b=none
structure Inv (X:Cx) (pins:List (Addr×Obj)) (σ:List (Option V)) (H:Hp) (s:Shared):Prop where
 ok:X.Ok
 os:s.os=X.s₀.os
 bare:AllBare s.gens
 base:Un X.fs X.ex X.H₀ H X.s₀.heap s.heap
 loc:∃m,s.heap.Ns X.env.locals m/\∀(i:Nat) (x:Str) (v:V),X.N[i]?=⇑x->σ[i]?=⇑⇑v->mD X.env.scope x->∃u,ag v u/\zi X.env s.heap m x u
 cell:∀x c,X.env.cells.lookup x=⇑c->∃v,s.heap.IsCell c v
 free:H X.env.locals=none
 freeC:∀x c,X.env.cells.lookup x=⇑c->H c=none
 pin:∀p∈X.pn++pins,s.heap.get? p.1=⇑p.2/\H p.1=none/\p.1≠X.env.locals/\p.1 ∉ X.fs/\∀v,p.2.data≠.cell v
 hok:cB X.prog X.w H s.heap
 len:σ.length=X.N.length
variable {x:Str} {t' i:Nat} {M:Model} {A:Around} {E:Ke->Kf->Prop} {v:V}
section
variable {X:Cx} {pins:List (Kg×Obj)} {σ:List (Kd V)} {H H':Hp} {s:Kf} {h':Heap}
def Cx.Ok.nofr (ok:X.Ok) {o:Obj} (e:X.base.get? b=⇑o):b ∉ X.fs:=λhb=>by have:=(ok.funs.mem hb).1;rw[e] at this; cases this
def Inv.bs (I:Inv X pins σ H s):∀b o,X.base.get? b=⇑o->s.heap.get? b=⇑o/\H b=none:=λb o e =>
 #[I.base.keep b o (I.ok.bs b o e).1 (I.ok.bs b o e).2 (I.ok.nofr e) (I.ok.noex b o e),I.base.free b o (I.ok.bs b o e).1 (I.ok.bs b o e).2 (I.ok.noex b o e)]
def Inv.bk (I:Inv X pins σ H s):∀b o,X.base.get? b=⇑o->s.heap.get? b=⇑o:=λb o e=>(I.bs b o e).1
def Inv.mod (I:Inv X pins σ H s):Mod X.K X.mg X.base:=I.ok.mod
def Inv.kIn (I:Inv X pins σ H s):X.K.In s.heap:=I.ok.mod.kin.keeps I.bk
def Inv.fr (I:Inv X pins σ H s):∃m,Fr X.base X.env.locals s.heap m :=
 let ⟨m,hn,_⟩:=I.loc
 #[m,hn,I.bk,Hf I.ok.bsz I.ok.above]
def Inv.lt (I:Inv X pins σ H s):X.env.locals<s.heap.objs.size:=by let#[_,hn,_]:=I.loc; exact hn.lt
def Inv.sz (I:Inv X pins σ H s):X.s₀.heap.objs.size<=s.heap.objs.size:=Hf I.ok.above (IE I.lt)
def Inv.nofs (I:Inv X pins σ H s) (h:s.heap.objs.size<=a):a ∉ X.fs:=λhb=>by let#[_,o,ho,_]:=I.ok.funs.mem hb;exact absurd (Hi (HU ho) (Hf I.sz h)) (ID _)
def Inv.cne (I:Inv X pins σ H s):∀x c,X.env.cells.lookup x=⇑c->c≠X.env.locals:=λx c e z=>by let#[v,o,ho,hd]:=I.cell x c e;obtain⟨m,⟨o',es,ep,ho',hd',_⟩,_⟩:=I.loc;rw[z,ho'] at ho; cases ho; rw[hd'] at hd; cases hd
def Inv.funs (I:Inv X pins σ H s):s.heap.FunFrames X.base X.outer:=by
 have all:∀(l:List Env),(∀b∈eT l,b∈X.fs)->X.s₀.heap.FunFrames X.base l->s.heap.FunFrames X.base l:=by
   intro l
   induction l with
   | nil=>intro _ _; trivial
   | cons env r ih =>
     intro hs hl;obtain⟨hk,⟨L,o,hf,hn,ho,hd⟩,hr⟩:=hl;have hL:L∈X.fs:=hs L (by unfold eT; rw[Jz,hf]; exact HH);let#[sl,e]:=I.base.slot L o ho (I.ok.frf L hL) hL λz=>I.ok.exfs L z hL;show#[hk,#[L,_,hf,hn,e,hd],ih (λb hb=>hs b (by unfold eT; rw[Jz,hf]; exact Gz _ hb)) hr]
 exact all X.outer (λ_ hb=>hb) I.ok.funs
def Inv.stack (I:Inv X pins σ H s):s.heap.FunFrames X.base X.stack:=by
 rcases I.ok.stk with e|⟨e,hf⟩
 . rw[e]; exact I.funs
 . rw[e];let#[m,hn,_]:=I.loc;refine .cons (by rw[I.ok.kind]; decide) hf hn ?_ I.funs;exact Heap.get?_none_of_le (Hf I.ok.bsz I.ok.above)
def Inv.stkSub (I:Inv X pins σ H s):∀b∈eT X.stack,b∈X.env.locals::X.fs:=λb hb=>by
 rcases I.ok.stk with e|⟨e,hf⟩
 . rw[e] at hb; exact Gz _ hb
 . rw[e] at hb;unfold eT at hb;rw[Jz,hf] at hb;exact hb
def Inv.stkFree (I:Inv X pins σ H s):∀b∈eT X.stack,H b=none:=λb hb=>by
 rcases HM.mp (I.stkSub b hb) with e|hb
 . rw[e]; exact I.free
 . let#[_,o,ho,_]:=I.ok.funs.mem hb;exact I.base.free b o ho (I.ok.frf b hb) λz=>I.ok.exfs b z hb
def Inv.step {g':Array GenState} {d':Drawn} {ch:List Kg} (I:Inv X pins σ H s)
   (hch:∀b∈ch,(b∈X.ex\/X.s₀.heap.objs.size<=b)/\b≠X.env.locals/\(∀x c,X.env.cells.lookup x=⇑c->c≠b)/\∀p∈X.pn++pins,p.1≠b)
   (keep:∀b o,b≠X.env.locals->b ∉ X.fs->b ∉ ch->s.heap.get? b=⇑o->H b=none->h'.get? b=⇑o)
   (slot:∀b o,b≠X.env.locals->b∈X.fs->b ∉ ch->s.heap.get? b=⇑o->H b=none->∃sl,h'.get? b=some { o with slots:=sl }) (free:∀b o,b ∉ ch->s.heap.get? b=⇑o->H b=none->H' b=none)
   (there:∀b o,b ∉ ch->s.heap.get? b=⇑o->∃o',h'.get? b=⇑o')
   (tups:∀b xs,H b=⇑(.tup xs)->H' b=⇑(.tup xs)) (frzs:∀b o u,H b=⇑(.frz o u)->H' b=⇑(.frz o u)) (tbls:∀b ps,H b=⇑(.tbl ps)->∃more,H' b=⇑(.tbl (ps++more)))
   (ns:∀m,s.heap.Ns X.env.locals m->h'.Ns X.env.locals m) (hok:cB X.prog X.w H' h') (hg:AllBare g') :
   Inv X pins σ H' { s with heap:=h',gens:=g',drawn:=d',toks:=t' }:=by
 have neL:∀b o,X.s₀.heap.get? b=⇑o->b≠X.env.locals:=λb o e=>Hu (Hi (HU e) I.ok.above);have neC:∀b o,X.s₀.heap.get? b=⇑o->b ∉ X.ex->b ∉ ch:=λb o e hx hb=>by
   rcases (hch b hb).1 with z|z
   . exact hx z
   . exact absurd (Hi (HU e) z) (ID _)
 have cellK:∀x c,X.env.cells.lookup x=⇑c->∀v,s.heap.IsCell c v->h'.IsCell c v:=λx c e v ⟨o,ho,hd⟩=>by
   have nch:c ∉ ch:=λz=>(hch c z).2.2.1 x c e rfl;by_cases hc:c∈X.fs
   . let#[sl,q]:=slot c o (I.cne x c e) hc nch ho (I.freeC x c e);show#[_,q,hd]
   . show#[o,keep c o (I.cne x c e) hc nch ho (I.freeC x c e),hd]
 show#[I.ok,I.os,hg,#[λb o e n hb hx=>?_,λb o e n hb hx=>?_,λb o e n hx=>?_,λb o e hx=>?_,λb xs e=>tups b xs (I.base.tups b xs e),λb o xs e=>frzs b o xs (I.base.frzs b o xs e),λb ps e=>?_],?_,λx c e=>?_,?_,λx c e=>?_,λp hp=>?_,hok,I.len]
 . exact keep b o (neL b o e) hb (neC b o e hx) (I.base.keep b o e n hb hx) (I.base.free b o e n hx)
 . let#[sl,e1]:=I.base.slot b o e n hb hx;let#[sl',e2]:=slot b _ (neL b o e) hb (neC b o e hx) e1 (I.base.free b o e n hx);show#[sl',e2]
 . let#[o',e1]:=I.base.there b o e hx;exact free b o' (neC b o e hx) e1 (I.base.free b o e n hx)
 . let#[o',e1]:=I.base.there b o e hx;exact there b o' (neC b o e hx) e1
 . let#[m1,e1]:=I.base.tbls b ps e;let#[m2,e2]:=tbls b _ e1;show#[m1++m2,by rw[e2,Array.append_assoc]]
 . let#[m,hn,hl]:=I.loc;show#[m,ns m hn,λi x v e1 e2 e3=>?_];let#[u,r,l]:=hl i x v e1 e2 e3;show#[u,r,?_];rcases l with l|⟨k,c,e,z⟩
   . exact .inl l
   . exact .inr #[k,c,e,cellK x c e _ z]
 . let#[v,z]:=I.cell x c e;show#[v,cellK x c e v z]
 . obtain⟨m,⟨o,_,_,ho,_⟩,_⟩:=I.loc;exact free _ o (λz=>(hch _ z).2.1 rfl) ho I.free
 . let#[v,o,ho,hd]:=I.cell x c e;exact free c o (λz=>(hch c z).2.2.1 x c e rfl) ho (I.freeC x c e)
 . let#[e,n,ne,nf,d]:=I.pin p hp;have nch:p.1 ∉ ch:=λz=>(hch p.1 z).2.2.2 p hp rfl;show#[keep p.1 p.2 ne nf nch e n,free p.1 p.2 nch e n,ne,nf,d]
def Inv.un (I:Inv X pins σ H s) (u:Un X.fs [] H H' s.heap h') (hok:cB X.prog X.w H' h'):Inv X pins σ H' { s with heap:=h',toks:=t' }:=by
 obtain⟨m,⟨o,es,ep,ho,r⟩,_⟩:=id I.loc;let#[sl,hL]:=u.any ho I.free 0xA;exact I.step (g':=s.gens) (d':=s.drawn) (ch:=[]) (λ_ z=>nomatch z) (λb o _ hb _ e n=>u.keep b o e n hb 0xA) (λb o _ hb _ e n=>u.slot b o e n hb 0xA) (λb o _ e n=>u.free b o e n 0xA) (λb o _ e=>u.there b o e 0xA) u.tups u.frzs u.tbls (λm' hm=>by let#[o',es',ep',ho',r']:=hm;rw[ho] at ho'; cases ho';show#[_,es',ep',hL,r']) hok I.bare
def Inv.call {g':Array GenState} {d':Drawn} {ch:List Kg} (I:Inv X pins σ H s) (u:Un (eT X.stack) ch H H' s.heap h') (hok:cB X.prog X.w H' h') (hg:AllBare g')
   (hch:∀b∈ch,(b∈X.ex\/X.s₀.heap.objs.size<=b)/\b≠X.env.locals/\(∀x c,X.env.cells.lookup x=⇑c->c≠b)/\∀p∈X.pn++pins,p.1≠b) :
   Inv X pins σ H' { s with heap:=h',gens:=g',drawn:=d',toks:=t' }:=by
 obtain⟨m,⟨o,es,ep,ho,r⟩,_⟩:=id I.loc;let#[sl,hL]:=u.any ho I.free λz=>(hch _ z).2.1 rfl;exact I.step (ch:=ch) hch (λb o hL hb hc e n=>u.keep b o e n (λz=>(HM.mp (I.stkSub b z)).elim hL hb) hc) (λb o _ _ hc e n=>u.any e n hc) (λb o hc e n=>u.free b o e n hc) (λb o hc e=>u.there b o e hc) u.tups u.frzs u.tbls (λm' hm=>by let#[o',es',ep',ho',r']:=hm;rw[ho] at ho'; cases ho';show#[_,es',ep',hL,r']) hok hg
def Inv.turned {it:Kg} (I:Inv X pins σ H s) (k:∀b o,b≠it->s.heap.get? b=⇑o->h'.get? b=⇑o) (hn:H it=none) (hL:it≠X.env.locals)
   (h1:it∈X.ex\/X.s₀.heap.objs.size<=it) (h2:∀x c,X.env.cells.lookup x=⇑c->c≠it) (h3:∀p∈X.pn++pins,p.1≠it):Inv X pins σ H { s with heap:=h',toks:=t' }:=by
 have nit:∀b u,H b=⇑u->b≠it:=λb u e z=>by rw[z,hn] at e; cases e
 refine I.step (g':=s.gens) (d':=s.drawn) (ch:=[it]) (λb hb=>?_) (λb o _ _ hc e _=>k b o (λz=>hc (by simp [z])) e) (λb o _ _ hc e _=>#[o.slots,k b o (λz=>hc (by simp [z])) e]) (λ_ _ _ _ n=>n)
   (λb o hc e=>#[o,k b o (λz=>hc (by simp [z])) e]) (λ_ _ e=>e) (λ_ _ _ e=>e) (λb ps e=>#[(List.toArray []),by rw[e]; simp]) (λm hm=>?_) (λb u e=>?_) I.bare
 . have e:b=it:=↑hb
   subst e;show#[h1,hL,h2,h3]
 . let#[o,es,ep,ho,r]:=hm;show#[o,es,ep,k _ o (Ne.symm hL) ho,r]
 . refine(I.hok b u e).stay (λc v hc q=>k c v ?_ q) (λ_ q=>q) λ_ _ q=>q;rcases hc with z|z
   . rw[z]; exact nit b u e
   . exact nit c _ z
def Inv.tok (I:Inv X pins σ H s) (t:Nat):Inv X pins σ H { s with toks:=t }:=I.un (h':=s.heap) (t':=t) Un.refl I.hok
def Inv.kept {t':Nat} (I:Inv X pins σ H s) (k:∀b u,s.heap.get? b=⇑u->h'.get? b=⇑u):Inv X pins σ H { s with heap:=h',toks:=t' }:=I.un (Un.kept k) (I.hok.kept k)
def Inv.laid {a:Kg} {o:HO} {t':Nat} (I:Inv X pins σ H s) (k:∀b u,s.heap.get? b=⇑u->h'.get? b=⇑u) (hp:s.heap.objs.size<=a) (new:cE X.prog X.w (upd H a o) h' a o) :
   Inv X pins σ (upd H a o) { s with heap:=h',toks:=t' }:=I.un (Un.laid k hp (I.hok.fresh hp)) (I.hok.laid k hp new)
def Inv.write {x e:Kg} {o:HO} {t':Nat} (I:Inv X pins σ H s) (mu:jy (H x)) (he:e=x\/H e=⇑(.own x)) (k:∀b u,b≠e->s.heap.get? b=⇑u->h'.get? b=⇑u) (heo:∃u,h'.get? e=⇑u)
   (new:cE X.prog X.w (upd H x o) h' x o):Inv X pins σ (upd H x o) { s with heap:=h',toks:=t' }:=I.un (Un.write mu he k heo) (I.hok.write mu he k heo new)
def Inv.weak {σ':List (Kd V)} (I:Inv X pins σ H s) (hl:σ'.length=σ.length) (w:∀(i:Nat) v,σ'[i]?=⇑⇑v->σ[i]?=⇑⇑v):Inv X pins σ' H s :=
 #[I.ok,I.os,I.bare,I.base,by let#[m,hn,hl']:=I.loc; show#[m,hn,λi x v e1 e2 e3=>hl' i x v e1 (w i v e2) e3],I.cell,I.free,I.freeC,I.pin,I.hok,hl\I.len]
def Inv.pins_of {pins':List (Kg×Obj)} (I:Inv X pins σ H s) (h:∀p∈pins',s.heap.get? p.1=⇑p.2/\H p.1=none/\p.1≠X.env.locals/\p.1 ∉ X.fs/\∀v,p.2.data≠.cell v):Inv X pins' σ H s :=
 #[I.ok,I.os,I.bare,I.base,I.loc,I.cell,I.free,I.freeC,λp hp=>(HW.mp hp).elim (λz=>I.pin p (Hx _ z)) (h p),I.hok,I.len]
def ud {N:List Str} (hN:N.Nodup) {j:Nat}(a:N[i]?=⇑x) (b:N[j]?=⇑x):i=j:=by let#[h1,e1]:=Gq.mp a;let#[h2,e2]:=Gq.mp b;exact(List.getElem_inj hN).mp (e1\e2.symm)
def tU {Q:Unit->Kf->Prop} (I:Inv X pins σ H s) (hN:X.N.Nodup) (hi:X.N[i]?=⇑x) (hx:jg X.env.scope x) (r:ag v u)
   (h:∀s',Inv X pins (σ.set i ⇑v) H s'->(∃a,Heap.SameBut a s.heap s'.heap/\(a=X.env.locals\/X.env.cells.lookup x=⇑a))->Q () s') (hf:X.fn x=true\/X.env.scope.names.lookup x=some .local:=by first|exact .inl rfl|exact .inr rfl|assumption):wpAny M A (storeName X.env x u) Q E s:=by
 let#[m,hn,hl]:=id I.loc;have hcls:(X.env.scope.kind==.class || (X.env.scope.kind==.module&&X.env.locals != X.env.globals))=false:=by rw[I.ok.kind]; rfl
 have hiσ:i<σ.length:=by rw[I.len]; exact(Gq.mp hi).1
 have cne:=I.cne;have tracked:∀{a:Kg} {h':Heap},(∃o,s.heap.get? a=⇑o/\H a=none)->Heap.SameBut a s.heap h'->cB X.prog X.w H h':=λ{a h'} ha hs b ob e=>by
   let#[_,_,hfree]:=ha;refine(I.hok b ob e).stay (λc w' hc q=>(hs.2 c ?_)\q) (λ_ q=>q) λ_ _ q=>q;rintro rfl;rcases hc with rfl|hc
   . rw[hfree] at e; cases e
   . rw[hfree] at hc; cases hc
 rcases hx with hk|hk
 . refine wpAny_storeName_local hk hn (λh' hn' hs=>?_) hcls;let#[oL,_,_,hoL,_]:=id hn;refine h _ #[I.ok,I.os,I.bare,#[λb o e n hb hx=>?_,λb o e n hb hx=>?_,I.base.free,λb o e hx=>?_,I.base.tups,I.base.frzs,I.base.tbls],#[_,hn',λj y v' e1 e2 e3=>?_],λy c e=>?_,I.free,I.freeC,λp hp=>?_,tracked #[oL,hoL,I.free] hs,by simpa using I.len] #[_,hs,.inl rfl]
   . exact(hs.2 b (Hu (Hi (HU e) I.ok.above))).trans (I.base.keep b o e n hb hx)
   . let#[sl,e1]:=I.base.slot b o e n hb hx;show#[sl,(hs.2 b (Hu (Hi (HU e) I.ok.above)))\e1]
   . let#[o',e1]:=I.base.there b o e hx;show#[o',(hs.2 b (Hu (Hi (HU e) I.ok.above)))\e1]
   . by_cases hj:j=i
     . subst hj;rw[hi] at e1; cases e1;rw[Jb hiσ] at e2;cases e2;show#[u,r,.inl #[hk,by simp]]
     . rw[J4 (Ne.symm hj)] at e2;let#[u',r',q]:=hl j y v' e1 e2 e3;show#[u',r',?_];rcases q with⟨k,e⟩|⟨k,c,e,z⟩
       . refine .inl #[k,?_];have:y≠x:=λe=>hj (ud hN e1 (e ▸ hi));simp [this,e]
       . exact .inr #[k,c,e,z.sameBut hs (cne y c e)]
   . let#[w',z]:=I.cell y c e;show#[w',z.sameBut hs (cne y c e)]
   . let#[e,n,ne,nf,d]:=I.pin p hp;show#[(hs.2 p.1 ne)\e,n,ne,nf,d]
 . have dP:X.fn x=true:=by
     rcases hf with z|z
     . exact z
     . rw[z] at hk; cases hk
   let#[c,hc]:=I.ok.has x (.inl hk);let#[w',z]:=I.cell x c hc;refine wpAny_storeName_cell I.ok.kind hk hc z (λh' hc' hs=>?_);let#[oc,hoc,hocd]:=id z;refine h { s with heap:=h' } #[I.ok,I.os,I.bare,#[λb o e n hb hx=>?_,λb o e n hb hx=>?_,I.base.free,λb o e hx=>?_,I.base.tups,I.base.frzs,I.base.tbls],#[m,hn.sameBut hs (Ne.symm (cne x c hc)),λj y v' e1 e2 e3=>?_],λy c' e=>?_,I.free,I.freeC,λp hp=>?_,tracked #[oc,hoc,I.freeC x c hc] hs,by simpa using I.len] #[c,hs,.inr hc]
   . exact(hs.2 b (Hu (Hi (HU e) (I.ok.cab x c dP hc)))).trans (I.base.keep b o e n hb hx)
   . let#[sl,e1]:=I.base.slot b o e n hb hx;show#[sl,(hs.2 b (Hu (Hi (HU e) (I.ok.cab x c dP hc))))\e1]
   . let#[o',e1]:=I.base.there b o e hx;show#[o',(hs.2 b (Hu (Hi (HU e) (I.ok.cab x c dP hc))))\e1]
   . by_cases hj:j=i
     . subst hj;rw[hi] at e1; cases e1;rw[Jb hiσ] at e2;cases e2;show#[u,r,.inr #[.inl hk,c,hc,hc']]
     . rw[J4 (Ne.symm hj)] at e2;let#[u',r',q]:=hl j y v' e1 e2 e3;show#[u',r',?_];rcases q with q|⟨k,c',e,z'⟩
       . exact .inl q
       . refine .inr #[k,c',e,z'.sameBut hs ?_];rintro rfl;exact hj (ud hN e1 (I.ok.inj _ _ _ e hc ▸ hi))
   . by_cases hcc:c'=c
     . subst hcc; show#[_,hc']
     . let#[w2,z2]:=I.cell y c' e;show#[w2,z2.sameBut hs hcc]
   . let#[e,n,ne,nf,d]:=I.pin p hp;show#[(hs.2 p.1 ?_)\e,n,ne,nf,d];intro q;rw[q,hoc] at e;have q':oc=p.2:=Option.some.inj e;exact d w' (by rw[<- q']; exact hocd)
def uW {Q:Unit->Kf->Prop} (I:Inv X pins σ H s) (hN:X.N.Nodup) (hi:X.N[i]?=⇑x) (hx:jg X.env.scope x) (r:ag v u)
   (h:∀s',Inv X pins (σ.set i ⇑v) H s'->Q () s') (hf:X.fn x=true\/X.env.scope.names.lookup x=some .local:=by first|exact .inl rfl|exact .inr rfl|assumption):wpAny M A (storeName X.env x u) Q E s :=
 tU I hN hi hx r (λs' I' _=>h s' I') hf
def Inv.call' {s':Kf} {ch:List Kg} (I:Inv X pins σ H s) (ho:s'.os=s.os) (u:Un (eT X.stack) ch H H' s.heap s'.heap) (hok:cB X.prog X.w H' s'.heap) (hg:AllBare s'.gens)
   (hch:∀b∈ch,(b∈X.ex\/X.s₀.heap.objs.size<=b)/\b≠X.env.locals/\(∀x c,X.env.cells.lookup x=⇑c->c≠b)/\∀p∈X.pn++pins,p.1≠b):Inv X pins σ H' s':=by
 let#[h',g',d',t',o']:=s';have e:o'=s.os:=ho;subst e;exact I.call (g':=g') (t':=t') (d':=d') u hok hg hch
end
noncomputable abbrev XK:=Ke->Kd Kg->Hp->Prop
noncomputable abbrev St:=List (Kd V)
noncomputable abbrev VK:=V->Hp->Prop
noncomputable abbrev TE:=St->Hp->VK->Prop
noncomputable abbrev TT:=St->Hp->(Bool->Hp->Prop)->Prop
noncomputable abbrev TA:=St->Hp->(List V->Hp->Prop)->Prop
structure Ends where
 nx:St->Hp->Prop
 rt:VK
 bk:St->Hp->Prop:=λ_ _=>False
 ct:St->Hp->Prop:=λ_ _=>False
noncomputable abbrev TS:=Ends->St->Hp->Prop
abbrev EP (X:Cx) (pins:List (Kg×Obj)) (σ:St) (Q:VK) (u:Ke) (s':Kf):Prop:=∃v H',Inv X pins σ H' s'/\ag v u/\Q v H'
abbrev TP (X:Cx) (pins:List (Kg×Obj)) (σ:St) (Q:Bool->Hp->Prop) (b:Bool) (s':Kf):Prop:=∃H',Inv X pins σ H' s'/\Q b H'
abbrev AP (X:Cx) (pins:List (Kg×Obj)) (σ:St) (Q:List V->Hp->Prop) (us:List Ke) (s':Kf):Prop:=∃vs H',Inv X pins σ H' s'/\ae vs us/\Q vs H'
abbrev SP (X:Cx) (pins:List (Kg×Obj)) (D:Ends) (f:Flow) (s':Kf):Prop :=
 match f with
 | .next=>∃σ' H',Inv X pins σ' H' s'/\D.nx σ' H'
 | .brk=>∃σ' H',Inv X pins σ' H' s'/\D.bk σ' H'
 | .cont=>∃σ' H',Inv X pins σ' H' s'/\D.ct σ' H'
 | .ret u=>∃v σ' H',Inv X pins σ' H' s'/\ag v u/\D.rt v H'
abbrev PE (X:Cx) (e:Expr) (t:TE):Prop :=
 ∀(pins:List (Kg×Obj)) (s:Kf) (σ:St) (H:Hp) (Q:VK),Inv X pins σ H s->t σ H Q->wpAny 0x8 X.A (eval e X.env) (EP X pins σ Q) X.xe s
abbrev PT (X:Cx) (e:Expr) (t:TT):Prop :=
 ∀(pins:List (Kg×Obj)) (s:Kf) (σ:St) (H:Hp) (Q:Bool->Hp->Prop),Inv X pins σ H s->t σ H Q->wpAny 0x8 X.A (isTrue e X.env (eval e X.env)) (TP X pins σ Q) X.xe s
abbrev PW (X:Cx) (e:Expr) (t:TT):Prop :=
 ∀(whole:Sem Ke) (pins:List (Kg×Obj)) (s:Kf) (σ:St) (H:Hp) (Q:Bool->Hp->Prop),Inv X pins σ H s->t σ H Q->wpAny 0x8 X.A (isTrue e X.env whole) (TP X pins σ Q) X.xe s
def PW.pt {X:Cx} {e:Expr} {t:TT} (h:PW X e t):PT X e t:=h _
abbrev PA (X:Cx) (es:List Expr) (t:TA):Prop :=
 ∀(pos:Pos) (pins:List (Kg×Obj)) (s:Kf) (σ:St) (H:Hp) (Q:List V->Hp->Prop),Inv X pins σ H s->t σ H Q->wpAny 0x8 X.A (spliced (backTo pos (starEach es X.env))) (AP X pins σ Q) X.xe s
abbrev PS (X:Cx) (st:Stmt) (t:TS):Prop :=
 ∀(pins:List (Kg×Obj)) (s:Kf) (σ:St) (H:Hp) (D:Ends),Inv X pins σ H s->t D σ H->wpAny 0x8 X.A (exec st X.env) (SP X pins D) X.xe s
abbrev aV (X:Cx) (st:List Stmt) (t:TS):Prop :=
 ∀(pins:List (Kg×Obj)) (s:Kf) (σ:St) (H:Hp) (D:Ends),Inv X pins σ H s->t D σ H->wpAny 0x8 X.A (execs st X.env) (SP X pins D) X.xe s
variable {us:List Ke}
section
variable {X:Cx} {pins:List (Kg×Obj)} {σ:St} {s:Kf} {P:Prop}
def EP.e {Q:VK} (h:EP X pins σ Q u s) (f:∀v H,Inv X pins σ H s->ag v u->Q v H->P):P:=by let#[v,H,a,b,c]:=h;exact f v H a b c
def TP.e {Q:Bool->Hp->Prop} {b:Bool} (h:TP X pins σ Q b s) (f:∀H,Inv X pins σ H s->Q b H->P):P:=by let#[H,a,c]:=h;exact f H a c
def AP.e {Q:List V->Hp->Prop} (h:AP X pins σ Q us s) (f:∀vs H,Inv X pins σ H s->ae vs us->Q vs H->P):P:=by let#[v,H,a,b,c]:=h;exact f v H a b c
end
variable {s:Kf}
def aW {α:Type} {t:Sem α} {Q Q':α->Kf->Prop} (h:wpAny M A t Q E s) (hQ:∀a s,Q a s->Q' a s):wpAny M A t Q' E s:=JR h hQ λ_ _ x=>x
variable {pos:Pos} {pins:List (Kg×Obj)} {σ:St} {op:CmpOp}
section
variable {X:Cx}
abbrev tW (i:Nat):TE:=λσ H Q=>∃v,σ[i]?=⇑⇑v/\Q v H
abbrev tC (v:V):TE:=λ_ H Q=>Q v H
def ET (hN:X.N[i]?=⇑x) (hv:mD X.env.scope x) (hd:(x==("__debug__":Str))=false:=by decide) (hcd:(x==("__classdict__":Str))=false:=by decide):PE X (.Name x pos) (tW i):=by
 intro pins s σ H Q I h;let#[v,e,h]:=h;let#[m,hn,hl]:=I.loc;let#[u,r,l]:=hl i x v hN e hv;have fin:EP X pins σ Q u s:=#[v,H,I,r,h]
 rcases l with⟨hk,hm⟩|⟨hk,c,hc,hcell⟩
 . exact wpAny_Name (wpAny_loadName_local I.ok.kind hk hn hm fin) hd
 . rcases hk with hk|hk
   . exact wpAny_Name (wpAny_loadName_cell I.ok.kind hk hc hcell fin) hd
   . exact wpAny_Name (wpAny_loadName_free I.ok.kind hk hc hcell fin hcd) hd
def aF {i j pos}:PE X (.Constant (.int i) j pos) (tC (.int i)):=λ_ _ _ H _ I h=>wpAny_Constant_int #[.int i,H,I.tok _,#[5],h]
def eP {b j pos}:PE X (.Constant (.bool b) j pos) (tC (.bl b)):=λ_ _ _ H _ I h=>Constant_bool #[.bl b,H,I,rfl,h]
def du {j pos}:PE X (.Constant .none j pos) (tC .non):=λ_ _ _ H _ I h=>Constant_none #[.non,H,I,rfl,h]
def aT {x j pos}:PE X (.Constant (.str x) j pos) (tC (.str x)):=λ_ _ _ H _ I h=>Calls.Constant_str #[.str x,H,I.tok _,#[5],h]
abbrev Gl (X:Cx) (x:Str):Prop:=X.env.kindOf x=some .globalImplicit
def nZ {Q:Ke->Kf->Prop} (I:Inv X pins σ H s) (hg:Gl X x) (hm:X.mg x=⇑u) (h:Q u s)
   (hd:(x==("__debug__":Str))=false:=by decide):wpAny 0x8 X.A (eval (.Name x pos) X.env) Q E s :=
 Calls.Name_function_global I.ok.kind hg (Calls.loadGlobal_global (by rw[I.ok.glob]; exact I.mod.glob.keeps I.bk) hm h) hd
def fD {Q:Ke->Kf->Prop} (I:Inv X pins σ H s) (hg:Gl X x) (hm:X.mg x=none) (hv:bootBuiltins x=⇑u) (h:Q u s)
   (hn:x≠"__name__":=by decide) (hd:(x==("__debug__":Str))=false:=by decide):wpAny 0x8 X.A (eval (.Name x pos) X.env) Q E s:=by
 let#[mb,h1,h2]:=I.mod.blt;exact Calls.Name_function_global I.ok.kind hg (Calls.loadGlobal_builtin (by rw[I.ok.glob]; exact I.mod.glob.keeps I.bk) hm (by rw[I.ok.blt]; exact h1.keeps I.bk) ((h2 x hn)\hv) h) hd
def ot (hg:Gl X x) (hm:X.mg x=⇑u) (r:ag v u) (hd:(x==("__debug__":Str))=false:=by decide):PE X (.Name x pos) (tC v) :=
 λ_ _ _ H _ I h=>nZ I hg hm #[v,H,I,r,h] hd
def gM (hg:Gl X x) (hm:X.mg x=none) (hv:bootBuiltins x=⇑u) (r:ag v u) (hn:x≠"__name__":=by decide) (hd:(x==("__debug__":Str))=false:=by decide):PE X (.Name x pos) (tC v) :=
 λ_ _ _ H _ I h=>fD I hg hm hv #[v,H,I,r,h] hn hd
variable {a b:Expr} {ta tb:TE} {pos:Pos}
abbrev PC (X:Cx) (op:CmpOp) (a b:Expr) (t:TE):Prop :=
 ∀(pins:List (Kg×Obj)) (s:Kf) (σ:St) (H:Hp) (Q:VK),Inv X pins σ H s->t σ H Q ->
   wpAny 0x8 X.A (eval a X.env) (λv s₁=>wpAny 0x8 X.A (eval b X.env) (λu s₂=>wpAny 0x8 X.A (compareOp op v u) (EP X pins σ Q) X.xe s₂) X.xe s₁) X.xe s
def sU (b:Expr) (h:op≠.In) (h2:op≠.NotIn):behindInMarks op b=false:=by
 have e1:(op==CmpOp.In)=false:=by cases op <;> first|rfl|exact absurd rfl h
 have e2:(op==CmpOp.NotIn)=false:=by cases op <;> first|rfl|exact absurd rfl h2
 cases b <;> simp [behindInMarks,e1,e2]
abbrev AS (ta:TE):TE:=λσ H Q=>ta σ H λx H1=>Q (.bl (decide (x=.non))) H1
abbrev DI (ta:TE):TE:=λσ H Q=>ta σ H λx H1=>Q (.bl (!decide (x=.non))) H1
def ag.none_iff {x:V} {v:Ke} (r:ag x v):(v==Value.none)=decide (x=.non):=by
 cases x with
 | non=>cases r; rfl
 | bl _=>cases r; rfl
 | int _=>let#[t,rfl]:=r; rfl
 | str _=>let#[t,rfl]:=r; rfl
 | byt _=>let#[t,rfl]:=r; rfl
 | flt _=>let#[t,rfl]:=r; rfl
 | ref _=>cases r; rfl
 | ty _=>cases r; rfl
def uo {j pos'} (ha:PE X a ta):PC X .Is a (.Constant .none j pos') (AS ta):=by intro pins s σ H Q I h;refine aW (ha pins s σ H _ I h) λv s1 z4_=>?_;let#[x,H1,I1,r1,q1]:=z4_;exact Constant_none (is_none_gen #[.bl _,H1,I1,by rw[r1.none_iff]; rfl,q1])
def DQ {j pos'} (ha:PE X a ta):PC X .IsNot a (.Constant .none j pos') (DI ta):=by intro pins s σ H Q I h;refine aW (ha pins s σ H _ I h) λv s1 z5_=>?_;let#[x,H1,I1,r1,q1]:=z5_;exact Constant_none (isnot_none_gen #[.bl _,H1,I1,by rw[r1.none_iff]; rfl,q1])
abbrev tB (t:TE):TT:=λσ H Q=>t σ H λx H1=>∃c,x=.bl c/\Q c H1
def CB {t:TE} (h:PC X op a b t) (h1:behindInMarks op b=false:=by first|exact sU _ #[] #[]|rfl):PE X (.Compare a [op] [b] pos) t:=λpins s σ H Q I hw=>wpAny_Compare1 (h pins s σ H Q I hw) h1
def oY {t:TE} (h:PC X op a b t) (h1:behindInMarks op b=false:=by first|exact sU _ #[] #[]|rfl):PT X (.Compare a [op] [b] pos) (tB t):=by intro pins s σ H Q I hw;refine Jn (aW (h pins s σ H _ I hw) λv s1 h1=>aW h1 λu s2 h2=>aW h2 λc s3 z6_=>?_) h1;let#[x,H1,I1,r1,q1]:=z6_;let#[d,rfl,q]:=q1;cases r1;exact Ic #[H1,I1,q]
def nI {e:Expr} {t:TE} (h:PE X e t) (he:∀whole,isTrue e X.env whole=(do let v <- whole; standAt e.pos; holding [v] (truthy v)):=by intro _; rfl):PT X e (tB t):=by intro pins s σ H Q I hw;refine isTrue_plain (aW (h pins s σ H _ I hw) λv s1 z7_=>?_) (he _);let#[x,H1,I1,r1,q1]:=z7_;let#[d,rfl,q]:=q1;cases r1;exact Ic #[H1,I1,q]
variable {tA tB':TT} {rest:List Expr}
abbrev yL (t u:TT):TT:=λσ H Q=>t σ H λc H1=>if c=true then u σ H1 Q else Q false H1
abbrev tOr (t u:TT):TT:=λσ H Q=>t σ H λc H1=>if c=true then Q true H1 else u σ H1 Q
abbrev zQ (t:TT):TT:=λσ H Q=>t σ H λc H1=>Q (!c) H1
def gj (ha:PT X a tA):PW X (.BoolOp .And [a] pos) tA:=by
 intro wh pins s σ H Q I h;refine isTrue_and (aW (ha pins s σ H Q I h) λc s1 e=>?_);cases c with
 | true=>exact isTrue_and_nil e
 | false=>exact e
def gD (ha:PT X a tA):PW X (.BoolOp .Or [a] pos) tA:=by
 intro wh pins s σ H Q I h;refine isTrue_or (aW (ha pins s σ H Q I h) λc s1 e=>?_);cases c with
 | false=>exact isTrue_or_nil e
 | true=>exact e
def ge (ha:PT X a tA) (hb:PW X (.BoolOp .And (b::rest) pos) tB'):PW X (.BoolOp .And (a::b::rest) pos) (yL tA tB'):=by
 intro wh pins s σ H Q I h;refine isTrue_and (aW (ha pins s σ H _ I h) λc s1 z8_=>?_);let#[H1,I1,q1]:=z8_;cases c with
 | true=>exact hb wh pins s1 σ H1 Q I1 q1
 | false=>show#[H1,I1,q1]
def fV (ha:PT X a tA) (hb:PW X (.BoolOp .Or (b::rest) pos) tB'):PW X (.BoolOp .Or (a::b::rest) pos) (tOr tA tB'):=by
 intro wh pins s σ H Q I h;refine isTrue_or (aW (ha pins s σ H _ I h) λc s1 z9_=>?_);let#[H1,I1,q1]:=z9_;cases c with
 | true=>show#[H1,I1,q1]
 | false=>exact hb wh pins s1 σ H1 Q I1 q1
def jx (ha:PT X a tA):PT X (.UnaryOp .Not a pos) (zQ tA):=by intro pins s σ H Q I h;exact isTrue_not (ha pins s σ H (λc H1=>Q (!c) H1) I h)
abbrev Es (ta tb:TE):TE:=λσ H Q=>ta σ H λx H1=>∃c,x=.bl c/\if c=true then tb σ H1 Q else Q (.bl false) H1
abbrev D3 (ta:TE):TE:=λσ H Q=>ta σ H λx H1=>∃c,x=.bl c/\Q (.bl (!c)) H1
def gp {op} {t:TE} (h:PE X a t):PE X (.BoolOp op [a] pos) t:=λpins s σ H Q I hw=>BoolOp_one (h pins s σ H Q I hw)
def gC (ha:PE X a ta) (hb:PE X (.BoolOp .And (b::rest) pos) tb):PE X (.BoolOp .And (a::b::rest) pos) (Es ta tb):=by
 intro pins s σ H Q I h;refine BoolOp_and (aW (ha pins s σ H _ I h) λv s1 z10_=>?_);let#[x,H1,I1,r1,q1]:=z10_;let#[c,rfl,q1]:=q1;cases r1;refine Ic ?_;cases c with
 | true=>exact hb pins s1 σ H1 Q I1 q1
 | false=>show#[.bl false,H1,I1,rfl,q1]
def Ch (ha:PE X a ta):PE X (.UnaryOp .Not a pos) (D3 ta):=by intro pins s σ H Q I h;refine UnaryOp_ (aW (ha pins s σ H _ I h) λv s1 z12_=>?_);let#[x,H1,I1,r1,q1]:=z12_;let#[c,rfl,q1]:=q1;cases r1;exact not_of (Ic #[.bl (!c),H1,I1,rfl,q1])
abbrev tIf (t:TT) (ta tb:TE):TE:=λσ H Q=>t σ H λc H1=>if c=true then ta σ H1 Q else tb σ H1 Q
def iW {c:Expr} (hc:PT X c tA) (ha:PE X a ta) (hb:PE X b tb):PE X (.IfExp c a b pos) (tIf tA ta tb):=by
 intro pins s σ H Q I h;refine wpAny_IfExp (aW (hc pins s σ H _ I h) λd s1 z13_=>?_);let#[H1,I1,q1]:=z13_;cases d with
 | true=>exact ha pins s1 σ H1 Q I1 q1
 | false=>exact hb pins s1 σ H1 Q I1 q1
end
abbrev aG (K:Kh) (H:Hp) (a:Kg) (xs:List V):Prop :=
 Rd H a (.lst xs) \/
   ∃(o:Obj) (its:Array Ke) (n:Nat),K.lookup a=⇑o/\o.cls=.type "list"/\o.dict=none/\o.data=.seq its n/\its.size<=sizeLine/\ae xs its.toList
abbrev aN (K:Kh) (H:Hp) (a:Kg) (xs:List V):Prop :=
 Rd H a (.tup xs) \/
   ∃(o:Obj) (its:Array Ke) (n:Nat),K.lookup a=⇑o/\o.cls=.type "tuple"/\o.data=.seq its n/\its.size<=sizeLine/\ae xs its.toList
abbrev GK:Ke->Kd V
 | .none=>some .non
 | .bool b=>⇑(.bl b)
 | .int i _=>⇑(.int i)
 | .str x _=>⇑(.str x)
 | .bytes b _=>⇑(.byt b)
 | .float b _=>⇑(.flt b)
 | .ref a=>⇑↥a
 | .type n=>⇑(.ty n)
 | _=>none
def ag.abs {x:V} (r:ag x u):GK u=⇑x:=by
 cases x with
 | non=>cases r; rfl
 | bl _=>cases r; rfl
 | int _=>let#[t,rfl]:=r; rfl
 | str _=>let#[t,rfl]:=r; rfl
 | byt _=>let#[t,rfl]:=r; rfl
 | flt _=>let#[t,rfl]:=r; rfl
 | ref _=>cases r; rfl
 | ty _=>cases r; rfl
def ag.inj {x y:V} {u:Ke} (r:ag x u) (q:ag y u):x=y:=Option.some.inj (r.abs.symm\q.abs)
def ae.inj:∀{xs ys:List V} {us:List Ke},ae xs us->ae ys us->xs=ys:=by
 intro xs ys us h h'
 induction h generalizing ys with
 | nil=>cases h'; rfl
 | cons r t ih =>
   cases h' with
   | cons r' t'=>rw[r.inj r',ih t']
variable {K:Kh}
section
variable {X:Cx} {pins:List (Kg×Obj)} {σ:St} {H:Hp} {s:Kf} {a:Kg} {xs ys:List V}
def aG.of (h:H a=⇑(.lst xs)):aG K H a xs:=.inl (.inl h)
def aN.of (h:H a=⇑(.tup xs)):aN K H a xs:=.inl (.inl h)
def Inv.list (I:Inv X pins σ H s) (h:aG X.K H a xs):∃its:List Ke,ae xs its/\PlainL s.heap a its.toArray/\xs.length<=sizeLine:=by
 rcases h with h|⟨o,its,n,hk,hc,hd,hs,hz,r⟩
 . let#[z,its,n,r,e]:=h.ok I.hok;show#[its,r,#[_,n,e,15],z]
 . show#[its.toList,r,#[o,n,I.kIn a o hk,hc,hd,by simpa using hs],?_];have e:=r.length;simp only[J'] at e
   lia
def Inv.tuple (I:Inv X pins σ H s) (h:aN X.K H a xs):∃its:List Ke,ae xs its/\IsTup s.heap a its.toArray/\xs.length<=sizeLine:=by
 rcases h with h|⟨o,its,n,hk,hc,hs,hz,r⟩
 . let#[z,its,r,p]:=h.ok I.hok;show#[its,r,p,z]
 . show#[its.toList,r,#[o,I.kIn a o hk,hc,n,by simpa using hs],?_];have e:=r.length;simp only[J'] at e
   lia
def Inv.list_inj (I:Inv X pins σ H s) (h:aG X.K H a xs) (h':aG X.K H a ys):xs=ys:=by
 obtain⟨its,r,⟨o,n,e,_,_,d⟩,_⟩:=I.list h;obtain⟨its',r',⟨o',n',e',_,_,d'⟩,_⟩:=I.list h';rw[e] at e'; cases e';rw[d] at d';injection d' with d1 _
 have:its=its':=by simpa using HY Array.toList d1
 subst this;exact r.inj r'
def Inv.tuple_inj (I:Inv X pins σ H s) (h:aN X.K H a xs) (h':aN X.K H a ys):xs=ys:=by
 obtain⟨its,r,⟨o,e,_,n,d⟩,_⟩:=I.tuple h;obtain⟨its',r',⟨o',e',_,n',d'⟩,_⟩:=I.tuple h';rw[e] at e'; cases e';rw[d] at d';injection d' with d1 _
 have:its=its':=by simpa using HY Array.toList d1
 subst this;exact r.inj r'
end
noncomputable abbrev Cx.wish (X:Cx) (E:Ke->Kf->Prop):Cx:={ X with xe:=E }
noncomputable abbrev Cx.nox (X:Cx):Cx:=X.wish λ_ _=>False
variable {X:Cx}
def Cx.Ok.wish (ok:X.Ok) (E:Ke->Kf->Prop):(X.wish E).Ok :=
 #[ok.mod,ok.kind,ok.glob,ok.blt,ok.above,ok.inj,ok.has,ok.cab,ok.hd,ok.frames,ok.stk,ok.exf,ok.bs,ok.bsz,ok.noex,ok.exfs,ok.funs,ok.frf]
def Cx.Ok.unwish (ok:(X.wish E).Ok):X.Ok :=
 #[ok.mod,ok.kind,ok.glob,ok.blt,ok.above,ok.inj,ok.has,ok.cab,ok.hd,ok.frames,ok.stk,ok.exf,ok.bs,ok.bsz,ok.noex,ok.exfs,ok.funs,ok.frf]
section
variable {X:Cx} {pins:List (Kg×Obj)} {σ:St} {H:Hp} {s:Kf} {E:Ke->Kf->Prop}
def Inv.wish (I:Inv X pins σ H s) (E:Ke->Kf->Prop):Inv (X.wish E) pins σ H s:=#[I.ok.wish E,I.os,I.bare,I.base,I.loc,I.cell,I.free,I.freeC,I.pin,I.hok,I.len]
def Inv.unwish (I:Inv (X.wish E) pins σ H s):Inv X pins σ H s:=#[I.ok.unwish,I.os,I.bare,I.base,I.loc,I.cell,I.free,I.freeC,I.pin,I.hok,I.len]
def SP.unwish {D:Ends} {f:Flow} {s':Kf} (h:SP (X.wish E) pins D f s'):SP X pins D f s':=by
 cases f with
 | next=>let#[σ',H',I,q]:=h; show#[σ',H',I.unwish,q]
 | brk=>let#[σ',H',I,q]:=h; show#[σ',H',I.unwish,q]
 | cont=>let#[σ',H',I,q]:=h; show#[σ',H',I.unwish,q]
 | ret u=>let#[v,σ',H',I,r,q]:=h; show#[v,σ',H',I.unwish,r,q]
def aV.nox {st:List Stmt} {t:TS} (h:aV X.nox st t):aV X st t:=λpins s σ H D I hw =>
 JR (h pins s σ H D (I.wish _) hw) (λ_ _ q=>q.unwish) λ_ _ z=>False.elim z
end
section
variable {X:Cx} {st:Stmt} {rest:List Stmt} {t u:TS} {e:Expr} {te:TE} {pos:Pos}
abbrev Ey:TS:=λD σ H=>D.nx σ H
abbrev EO (t u:TS):TS:=λD σ H=>t { D with nx:=u D } σ H
def aj:aV X [] Ey:=λ_ _ σ H _ I h=>Jr #[σ,H,I,h]
def aK (h1:PS X st t) (h2:aV X rest u):aV X (st::rest) (EO t u):=by
 intro pins s σ H D I h;refine KN (aW (h1 pins s σ H { D with nx:=u D } I h) λf s1 q=>?_);cases f with
 | next =>
   let#[σ',H',I',q]:=q;exact h2 pins s1 σ' H' D I' q
 | ret v=>exact q
 | brk=>exact q
 | cont=>exact q
def aO (h1:PS X st t):aV X [st] t:=by
 intro pins s σ H D I h;refine KN (aW (h1 pins s σ H D I h) λf s1 q=>?_);cases f with
 | next=>exact Jr q
 | ret v=>exact q
 | brk=>exact q
 | cont=>exact q
def Inv.quiet (I:Inv X pins σ H s):interactive X.env=false:=by simp [interactive,I.ok.kind]
abbrev DY (te:TE):TS:=λD σ H=>te σ H λ_ H1=>D.nx σ H1
def bK (he:PE X e te) (hs:swapsWith e none pos.line X.env=pure false:=by rfl):PS X (.Expr e pos) (DY te):=by intro pins s σ H D I h;exact wpAny_Expr_any (aW (he pins s σ H _ I h) λv s1 z16_=>by let#[x,H1,I1,r1,q1]:=z16_; show#[σ,H1,I1,q1]) I.quiet hs
abbrev yJ (te:TE):TS:=λD σ H=>te σ H D.rt
def aX (he:PE X e te):PS X (.Return ⇑e pos) (yJ te):=by intro pins s σ H D I h;exact wpAny_Return_some (aW (he pins s σ H _ I h) λv s1 z17_=>by let#[x,H1,I1,r1,q1]:=z17_; show#[x,σ,H1,I1,r1,q1])
abbrev Bv:TS:=λD _ H=>D.rt .non H
def FM:PS X (.Return none pos) Bv:=λ_ _ σ H _ I h=>wpAny_Return_none #[.non,σ,H,I,rfl,h]
abbrev AU (c:TT) (t u:TS):TS:=λD σ H=>c σ H λb H1=>if b=true then t D σ H1 else u D σ H1
def ah {c:Expr} {a b:List Stmt} {tc:TT} (hc:PT X c tc) (ha:aV X a t) (hb:aV X b u):PS X (.If c a b pos) (AU tc t u):=by
 intro pins s σ H D I h;refine wpAny_If (aW (hc pins s σ H _ I h) λd s1 z18_=>?_);let#[H1,I1,q1]:=z18_;cases d with
 | true=>exact ha pins s1 σ H1 D I1 q1
 | false=>exact hb pins s1 σ H1 D I1 q1
abbrev CW:TS:=λ_ _ _=>False
def nS:PS X st CW:=λ_ _ _ _ _ _ h=>h.elim
end
noncomputable abbrev TG:=V->St->Hp->(St->Hp->Prop)->Prop
noncomputable abbrev eK:=List V->St->Hp->(St->Hp->Prop)->Prop
abbrev PG (X:Cx) (target:Expr) (t:TG):Prop :=
 ∀(pins:List (Kg×Obj)) (s:Kf) (σ:St) (H:Hp) (v:V) (u:Ke) (Q:St->Hp->Prop),Inv X pins σ H s->ag v u->t v σ H Q ->
   wpAny 0x8 X.A (assign target X.env u) (λ_ s'=>∃σ' H',Inv X pins σ' H' s'/\Q σ' H') X.xe s
abbrev jR (X:Cx) (ts:List Expr) (t:eK):Prop :=
 ∀(pins:List (Kg×Obj)) (s:Kf) (σ:St) (H:Hp) (vs:List V) (us:List Ke) (Q:St->Hp->Prop),Inv X pins σ H s->ae vs us->t vs σ H Q ->
   wpAny 0x8 X.A (assignInOrder ((assignEach ts X.env).map (·.2)) us) (λ_ s'=>∃σ' H',Inv X pins σ' H' s'/\Q σ' H') X.xe s
noncomputable abbrev nX:=V->V->V->Hp->(Hp->Prop)->Prop
abbrev sJ (X:Cx) (t:nX):Prop :=
 ∀(pins:List (Kg×Obj)) (s:Kf) (σ:St) (H:Hp) (o i v:V) (ov iv u:Ke) (Q:Hp->Prop),Inv X pins σ H s->ag o ov->ag i iv->ag v u->t o i v H Q ->
   wpAny 0x8 X.A (setItem ov iv u) (λ_ s'=>∃H',Inv X pins σ H' s'/\Q H') X.xe s
noncomputable abbrev TIp:=V->V->Hp->VK->Prop
abbrev PIp (X:Cx) (op:Operator) (t:TIp):Prop :=
 ∀(pins:List (Kg×Obj)) (s:Kf) (σ:St) (H:Hp) (x y:V) (v u:Ke) (Q:VK),Inv X pins σ H s->ag x v->ag y u->t x y H Q ->
   wpAny 0x8 X.A (inplaceOp op v u) (EP X pins σ Q) X.xe s
variable {tg:Expr} {g:TG}
section
variable {X:Cx} {pos:Pos}
abbrev fe (i:Nat):TG:=λv σ H Q=>Q (σ.set i ⇑v) H
def au (hN:X.N.Nodup) (hi:X.N[i]?=⇑x) (hx:jg X.env.scope x) (hf:X.fn x=true\/X.env.scope.names.lookup x=some .local:=by first|exact .inl rfl|exact .inr rfl|assumption):PG X (.Name x pos) (fe i):=by intro pins s σ H v u Q I r h;exact wpAny_assign_Name (uW I hN hi hx r (λs' I'=>#[_,H,I',h]) hf)
abbrev tJ:eK:=λvs σ H Q=>vs=[]/\Q σ H
abbrev qS (t:TG) (u:eK):eK:=λvs σ H Q=>∃v r,vs=v::r/\t v σ H λσ' H'=>u r σ' H' Q
def dE:jR X [] tJ:=by intro pins s σ H vs us Q I r h;let#[e,h]:=h;subst e;cases r;exact assignInOrder_nil #[σ,H,I,h]
def bV {e:Expr} {es:List Expr} {t:TG} {u:eK} (h1:PG X e t) (h2:jR X es u)
   (hs:(assignEach (e::es) X.env).map (·.2)=assign e X.env::(assignEach es X.env).map (·.2):=by rfl):jR X (e::es) (qS t u):=by
 intro pins s σ H vs us Q I r h;let#[v,vr,e1,h]:=h;subst e1;cases r with
 | cons r rr =>
   rw[hs];refine assignInOrder_cons (aW (h1 pins s σ H _ _ _ I r h) λ_ s1 z19_=>?_);let#[σ1,H1,I1,q1]:=z19_;exact h2 pins s1 σ1 H1 _ _ Q I1 rr q1
abbrev oW (K:Kh) (n:Nat) (t:eK):TG:=λv σ H Q=>∃a xs,v=↥a/\aN K H a xs/\xs.length=n/\t xs σ H Q
def dR {es:List Expr} {k:Nat} {t:eK} {n:Nat} (hc:X.calm=true) (h:jR X es t)
   (hn:(assignEach es X.env).length=n:=by rfl) (hst:(assignEach es X.env).findIdx? (·.1)=none:=by rfl):PG X (.Tuple es k pos) (oW X.K n t):=by
 intro pins s σ H v u Q I r hw;let#[a,xs,e1,hq,hl,hw]:=hw;subst e1;cases r;let#[its,rv,ht,hz]:=I.tuple hq;refine assign_Tuple_tuple (I.ok.hd hc) ht (by simp [hn,<- hl,rv.length]) hst λh' hx=>?_;have I1:Inv X pins σ H { s with heap:=h' }:=I.kept (t':=s.toks) λb o e=>hx b o (Hu (HU e)) e;exact h pins _ σ H xs _ Q I1 ↑rv hw
abbrev Bm (to ti:TE) (t:nX):TG:=λv σ H Q=>to σ H λo H1=>ti σ H1 λi H2=>t o i v H2 λH3=>Q σ H3
def iB {o i:Expr} {to ti:TE} {t:nX} (ho:PE X o to) (hi:PE X i ti) (hs:sJ X t)
   (ha:∀v,assign (.Subscript o i pos) X.env v=(do
     let ov <- holding [v] (eval o X.env)
     let iv <- holding [v,ov] (eval i X.env)
     standAt pos
     holding [v,ov,iv] (setItem ov iv v)
     release [v,ov,iv] []):=by intro _; rfl):PG X (.Subscript o i pos) (Bm to ti t):=by
 intro pins s σ H v u Q I r h;rw[ha];refine Gp (IU (aW (ho pins s σ H _ I h) λov s1 z20_=>?_));let#[x,H1,I1,r1,q1]:=z20_;refine Gp (IU (aW (hi pins s1 σ H1 _ I1 q1) λiv s2 z21_=>?_));let#[y,H2,I2,r2,q2]:=z21_;refine Gp (KA (Gp (IU (aW (hs pins s2 σ H2 x y v ov iv u _ I2 r1 r2 r q2) λ_ s3 z22_=>?_))));let#[H3,I3,q3]:=z22_;exact wpAny_release #[σ,H3,I3,q3]
abbrev nD (te:TE) (g:TG):TS:=λD σ H=>te σ H λx H1=>g x σ H1 D.nx
def dz {e:Expr}{te:TE} (he:PE X e te) (hg:PG X tg g) (hs:swapsWithSole [tg] e pos.line X.env=pure false:=by rfl) (hw:swappedStores [tg] e X.env=pure none:=by rfl)
   (h1:(assignEach [tg] X.env).map (·.2)=[assign tg X.env]:=by rfl):PS X (.Assign [tg] e pos) (nD te g):=by
 intro pins s σ H D I h;refine wpAny_Assign_stores (aW (he pins s σ H _ I h) λv s1 z23_=>?_) hs hw;let#[x,H1,I1,r1,q1]:=z23_;rw[h1];exact aW (hg pins s1 σ H1 x v _ I1 r1 q1) λ_ s2 q=>q
def aa {i:Nat} {x:Str} {e:Expr} {te:TE} {pos':Pos} (hN:X.N.Nodup) (hi:X.N[i]?=⇑x) (hx:jg X.env.scope x) (he:PE X e te) (hs:swapsWith e ⇑(.Name x pos') pos.line X.env=pure false:=by rfl) (hf:X.fn x=true\/X.env.scope.names.lookup x=some .local:=by first|exact .inl rfl|exact .inr rfl|assumption) :
   PS X (.Assign [.Name x pos'] e pos) (nD te (fe i)):=by
 intro pins s σ H D I h;refine wpAny_Assign_Name (aW (he pins s σ H _ I h) λv s1 z24_=>?_) hs;let#[y,H1,I1,r1,q1]:=z24_;exact uW I1 hN hi hx r1 (λs2 I2=>#[_,H1,I2,q1]) hf
abbrev ipI (f:Int->Int->Int):TIp:=λx y H Q=>∃i j,x=.int i/\y=.int j/\Q (.int (f i j)) H
def Dm:PIp X .Add (ipI λi j=>i+j):=by intro pins s σ H x y v u Q I r1 r2 h;let#[i,j,e1,e2,q]:=h;subst e1; subst e2;let#[t,rfl]:=r1;let#[t',rfl]:=r2;exact iadd_int #[.int _,H,I.tok _,#[5],q]
end
variable {tb:TS}
section
variable {X:Cx} {pos:Pos}
abbrev DH (c:TT) (tb:TS):TS:=λD σ H=>∃W:Nat->St->Hp->Prop,(∃m,W m σ H)/\∀m σ H,W m σ H ->
 c σ H λb H1=>if b=true then ∃N:St->Hp->Prop,(∀σ' H',N σ' H'->∃m',m'<m/\W m' σ' H')/\tb { D with nx:=N,ct:=N,bk:=D.nx } σ H1 else D.nx σ H1
def uq {c:Expr} {body:List Stmt} {tc:TT} (hp:PassesOwn 0x8 X.A X.env X.xe) (hc:PT X c tc) (hb:aV X body tb):PS X (.While c body [] pos) (DH tc tb):=by
 intro pins s σ H D I h;obtain⟨W,⟨m0,w0⟩,turn⟩:=h;refine wpAny_While (codeAny_whileLoop (λn s'=>∃σ' H',Inv X pins σ' H' s'/\W n σ' H') ?_ m0 #[σ,H,I,w0]);rintro n s1 ⟨σ1,H1,I1,w1⟩;refine Iy hp (aW (hc pins s1 σ1 H1 _ I1 (turn n σ1 H1 w1)) λb s2 z34_=>?_);let#[H2,I2,q2]:=z34_;cases b with
 | true =>
   let#[N,hN,q2]:=q2;rw[HI rfl];refine Iy hp (aW (hb pins s2 σ1 H2 _ I2 q2) λf s3 q3=>?_);cases f with
   | next =>
     let#[σ3,H3,I3,n3]:=q3;let#[m',hm,w3]:=hN σ3 H3 n3;show#[m',hm,σ3,H3,I3,w3]
   | cont =>
     let#[σ3,H3,I3,n3]:=q3;let#[m',hm,w3]:=hN σ3 H3 n3;show#[m',hm,σ3,H3,I3,w3]
   | brk=>exact q3
   | ret v=>exact q3
 | false =>
   rw[Gu Hd];exact Jr #[σ1,H2,I2,q2]
end
structure It where
 go:Nat->Hp->Prop
 yld:Nat->Hp->V->Hp->Prop
 stop:Nat->Hp->Prop
abbrev eZ (X:Cx) (pins:List (Kg×Obj)) (H:Hp) (b:Kg):Prop :=
 H b=none/\b≠X.env.locals/\b ∉ X.fs/\(b∈X.ex\/X.s₀.heap.objs.size<=b)/\(∀x c,X.env.cells.lookup x=⇑c->c≠b)/\∀p∈X.pn++pins,p.1≠b
def Inv.fpOk {H':Hp}(I:Inv X pins σ H s) (hb:s.heap.objs.size<=b) (hn:H' b=none):eZ X pins H' b:=by
 show#[hn,Ij (Hi I.lt hb),I.nofs hb,.inr (Hf I.sz hb),λx c e z=>?_,λp hp z=>?_]
 . let#[v,q]:=I.cell x c e;exact absurd (Hi q.lt (by rw[z]; exact hb)) (ID _)
 . exact absurd (Hi (HU (I.pin p hp).1) (by rw[z]; exact hb)) (ID _)
structure Turn (P:Program) (w:World) (K:W.Frag) (tg:Expr) (J:It) (fp:List Addr) (it:Addr) (tn:Nat->Heap->Prop):Prop where
 mem:it∈fp
 obj:∀i h,tn i h->∀b∈fp,∃o,h.get? b=⇑o/\∀v,o.data≠.cell v
 keep:∀i h h',tn i h->(∀b∈fp,∀o,h.get? b=⇑o->h'.get? b=⇑o)->tn i h'
 item:∀(X:Cx),X.prog=P->X.w=w->X.K=K->X.calm=true->∀(i:Nat) (pins:List (Addr×Obj)) (s:Shared) (σ:St) (H:Hp) (E:Value->Shared->Prop),Inv X pins σ H s->(∀b∈fp,eZ X pins H b)->tn i s.heap->J.go i H ->
   wpAny (model P w) X.A (pyNext ↥it) (λr s1=>∃u,r=⇑u /\
     wpAny (model P w) X.A (letOwnedTupleGo tg ↥it u) (λ_ s2=>∃x H',Inv X pins σ H' s2/\ag x u/\J.yld i H x H'/\tn (i+1) s2.heap/\∀b∈fp,H' b=none) E s1) E s
 done:∀(X:Cx),X.prog=P->X.w=w->X.K=K->X.calm=true->∀(i:Nat) (pins:List (Addr×Obj)) (s:Shared) (σ:St) (H:Hp) (E:Value->Shared->Prop),Inv X pins σ H s->(∀b∈fp,eZ X pins H b)->tn i s.heap->J.stop i H ->
   wpAny (model P w) X.A (pyNext ↥it) (λr s1=>r=none/\Inv X pins σ H s1) E s
 self:∀(A:Around) (i:Nat) (s:Shared) (Q:Value->Shared->Prop) (E:Value->Shared->Prop),tn i s.heap->Q ↥it s->wpAny (model P w) A (pyIter ↥it) Q E s
noncomputable abbrev TI:=St->Hp->(It->Hp->Prop)->Prop
abbrev PIE (X:Cx) (pins:List (Kg×Obj)) (σ:St) (tg:Expr) (R:It->Hp->Prop) (itv:Ke) (s2:Kf):Prop :=
 ∃(it:Kg) (fp:List Kg) (tn:Nat->Heap->Prop) (J:It) (H':Hp),itv=↥it/\Inv X pins σ H' s2/\Turn X.prog X.w X.K tg J fp it tn/\tn 0 s2.heap/\(∀b∈fp,eZ X pins H' b)/\R J H'
abbrev PI (X:Cx) (tg iter:Expr) (wi:TI):Prop :=
 ∀(pins:List (Kg×Obj)) (s:Kf) (σ:St) (H:Hp) (R:It->Hp->Prop),Inv X pins σ H s->wi σ H R ->
   wpAny 0x8 X.A (eval iter X.env) (λv s1=>wpAny 0x8 X.A (pyIter v) (PIE X pins σ tg R) X.xe s1) X.xe s
def mN {it:Kg} {o:Obj} {n:String} {vs:Array Ke} {Q:Unit->Kf->Prop} (ho:s.heap.get? it=⇑o) (hc:o.cls=.type n) (hd:o.data=.fields vs)
   (hn:["enumerate","zip","dict_itemiterator","dict_reverseitemiterator","odict_iterator","itertools.zip_longest","itertools.pairwise"].contains n=false) (hQ:Q () s):wpAny M A (letOwnedTupleGo tg ↥it u) Q E s:=by
 unfold letOwnedTupleGo;cases tg <;> first
   | exact HL hQ
   | (cases u <;> first
       | exact HL hQ
       | (refine Gp (wpAny_load ho ?_)
          rw[hc,hd];show wpAny M A (if(["enumerate","zip","dict_itemiterator","dict_reverseitemiterator","odict_iterator","itertools.zip_longest","itertools.pairwise"].contains n&&vs[0]?==⇑(rawInt _))=true then _ else _) Q E s;rw[Gu (by intro h; rw[hn,Bool.false_and] at h; cases h)];exact HL hQ))
abbrev gv (K:Kh) (a:Kg):It :=
 #[λi H=>∃xs x,aG K H a xs/\xs[i]?=⇑x,λi H x H'=>H'=H/\∀xs,aG K H a xs->xs[i]?=⇑x,λi H=>∃xs,aG K H a xs/\xs.length<=i]
abbrev hX (K:Kh) (a:Kg):It :=
 #[λi H=>∃xs x,aN K H a xs/\xs[i]?=⇑x,λi H x H'=>H'=H/\∀xs,aN K H a xs->xs[i]?=⇑x,λi H=>∃xs,aN K H a xs/\xs.length<=i]
abbrev gh (lo:Int) (n:Nat):It:=#[λi _=>i<n,λi H x H'=>H'=H/\x=.int (lo+i),λi _=>n<=i]
def AG (a it:Kg):Turn P w K tg (gv K a) [it] it (λi h=>h.IsListIter it a i) where
 mem:=by simp
 obj:=λi h st b hb=>by
   have e:b=it:=↑hb
   subst e;let#[o,e,c,d]:=st;show#[o,e,λv z=>by rw[d] at z; cases z]
 keep:=λi h h' st k=>st.at λo e=>k it 0xA o e
 item:=by intro X hP hw hK hc i pins s σ H E I hf st hg;subst hP hw hK;let#[xs,x,hq,hx]:=hg;let#[its,rv,p,hz]:=I.list hq;let#[u,hu,ru]:=rv.get hx;let#[f0,f1,f2,f3,f4,f5]:=hf it 0xA;refine Jc st p.isList (x:=u) ↑hu λh' st' sb=>?_;have I1:Inv X pins σ H { s with heap:=h' }:=I.turned (t':=s.toks) (λb o hb e=>(sb.2 b hb)\e) f0 f1 f3 f4 f5;let#[o,e,c,d]:=id st';show#[u,rfl,mN (s:={ s with heap:=h' }) e c d #[] #[x,H,I1,ru,#[rfl,λys hy=>by rw[I.list_inj hy hq]; exact hx],st',λb hb=>(hf b hb).1]]
 done:=by intro X hP hw hK hc i pins s σ H E I hf st hg;subst hP hw hK;let#[xs,hq,hx]:=hg;let#[its,rv,p,hz]:=I.list hq;let#[f0,f1,f2,f3,f4,f5]:=hf it 0xA;have hl:=rv.length;exact Jo (I.ok.hd hc) st p.isList (by simp; lia) λh' eb=>#[rfl,I.turned (t':=s.toks) (λb o hb e=>eb b o hb e) f0 f1 f3 f4 f5]
 self:=λ_ _ _ _ _ st h=>wpAny_pyIter_listiter st h
def BR (a it:Kg):Turn P w K tg (hX K a) [it] it (λi h=>h.IsTupleIter it a i) where
 mem:=by simp
 obj:=λi h st b hb=>by
   have e:b=it:=↑hb
   subst e;let#[o,e,c,d]:=st;show#[o,e,λv z=>by rw[d] at z; cases z]
 keep:=λi h h' st k=>st.at λo e=>k it 0xA o e
 item:=by intro X hP hw hK hc i pins s σ H E I hf st hg;subst hP hw hK;let#[xs,x,hq,hx]:=hg;let#[its,rv,p,hz]:=I.tuple hq;let#[u,hu,ru]:=rv.get hx;let#[f0,f1,f2,f3,f4,f5]:=hf it 0xA;refine wpAny_pyNext_tuple_item st (show s.heap.IsTuple a its.toArray from p) (x:=u) ↑hu λh' st' sb=>?_;have I1:Inv X pins σ H { s with heap:=h' }:=I.turned (t':=s.toks) (λb o hb e=>(sb.2 b hb)\e) f0 f1 f3 f4 f5;let#[o,e,c,d]:=id st';show#[u,rfl,mN (s:={ s with heap:=h' }) e c d #[] #[x,H,I1,ru,#[rfl,λys hy=>by rw[I.tuple_inj hy hq]; exact hx],st',λb hb=>(hf b hb).1]]
 done:=by intro X hP hw hK hc i pins s σ H E I hf st hg;subst hP hw hK;let#[xs,hq,hx]:=hg;let#[its,rv,p,hz]:=I.tuple hq;let#[f0,f1,f2,f3,f4,f5]:=hf it 0xA;have hl:=rv.length;exact wpAny_pyNext_tuple_end (I.ok.hd hc) st (show s.heap.IsTuple a its.toArray from p) (by simp; lia) λh' eb=>#[rfl,I.turned (t':=s.toks) (λb o hb e=>eb b o hb e) f0 f1 f3 f4 f5]
 self:=λ_ _ _ _ _ st h=>wpAny_pyIter_tupleiter st h
def Fs (it:Kg) (lo:Int) (n:Nat):Turn P w K tg (gh lo n) [it] it (λi h=>IsRangeIter h it (lo+(i:Nat) * 1) ((n:Int) - (i:Nat)) 1) where
 mem:=by simp
 obj:=λi h st b hb=>by
   have e:b=it:=↑hb
   subst e;show#[_,st,λv z=>by have z':Data.fields _=Data.cell v:=z;cases z']
 keep:=λi h h' st k=>k it 0xA _ st
 item:=by intro X hP hw hK hc i pins s σ H E I hf st hg;subst hP hw hK;let#[f0,f1,f2,f3,f4,f5]:=hf it 0xA;have W:=Walks.range (prog:=X.prog) (w:=X.w) (I.ok.hd hc) it lo 1 n;refine W.item i s _ _ hg st λv h' tk hv st' kk=>?_;let#[t,rfl]:=hv;have I1:Inv X pins σ H { s with heap:=h',toks:=tk }:=I.turned (λb o hb e=>kk b o ↑hb e) f0 f1 f3 f4 f5;show#[5,mN (s:={ s with heap:=h',toks:=tk }) (n:="range_iterator") st' rfl rfl #[] #[.int (lo+i),H,I1,#[t,?_],#[7],st',λb hb=>(hf b hb).1]];rw[Int.mul_one]
 done:=by intro X hP hw hK hc i pins s σ H E I hf st hg;subst hP hw hK;let#[f0,f1,f2,f3,f4,f5]:=hf it 0xA;exact wpAny_pyNext_range_end (I.ok.hd hc) st (by have:n<=i:=hg; lia) λh' eb=>#[rfl,I.turned (t':=s.toks) (λb o hb e=>eb b o hb e) f0 f1 f3 f4 f5]
 self:=λ_ _ _ _ _ st h=>wpAny_pyIter_rangeiter st h
section
variable {X:Cx} {tg:Expr}
abbrev Ev (K:Kh) (tl:TE):TI:=λσ H R=>tl σ H λx H1=>∃a,x=↥a/\(∃xs,aG K H1 a xs)/\R (gv K a) H1
abbrev FH (K:Kh) (tl:TE):TI:=λσ H R=>tl σ H λx H1=>∃a,x=↥a/\(∃xs,aN K H1 a xs)/\R (hX K a) H1
def di {l:Expr} {tl:TE} (hl:PE X l tl):PI X tg l (Ev X.K tl):=by
 intro pins s σ H R I h;refine aW (hl pins s σ H _ I h) λv s1 z35_=>?_;let#[x,H1,I1,r1,q1]:=z35_;obtain⟨a,e,⟨xs,hq⟩,q⟩:=q1;subst e;cases r1;let#[its,rv,p,hz]:=I1.list hq;refine IV p.isList ?_;show#[s1.heap.objs.size,[s1.heap.objs.size],4,H1,rfl,I1.kept (t':=s1.toks) λb o e=>Gr _ e,AG a _,#[_,HR _ rfl,7],λb hb=>?_,q];have e:b=s1.heap.objs.size:=↑hb
 subst e;exact I1.fpOk (Gw _) (I1.hok.fresh (Gw _))
def iu {l:Expr} {tl:TE} (hl:PE X l tl):PI X tg l (FH X.K tl):=by
 intro pins s σ H R I h;refine aW (hl pins s σ H _ I h) λv s1 z36_=>?_;let#[x,H1,I1,r1,q1]:=z36_;obtain⟨a,e,⟨xs,hq⟩,q⟩:=q1;subst e;cases r1;let#[its,rv,p,hz]:=I1.tuple hq;refine Il (show s1.heap.IsTuple a its.toArray from p) ?_;show#[s1.heap.objs.size,[s1.heap.objs.size],4,H1,rfl,I1.kept (t':=s1.toks) λb o e=>Gr _ e,BR a _,#[_,HR _ rfl,7],λb hb=>?_,q];have e:b=s1.heap.objs.size:=↑hb
 subst e;exact I1.fpOk (Gw _) (I1.hok.fresh (Gw _))
def uO {R:It->Hp->Prop} {lo hi:Int} {t u v:Tok} {tk:Nat} (I:Inv X pins σ H s) (h1:-(2 ^ 62)<=lo) (h2:lo<2 ^ 62) (h3:-(2 ^ 62)<=hi) (h4:hi<2 ^ 62)
   (q:R (gh lo (hi - lo).toNat) H):wpAny 0x8 X.A (pyIter ↥s.heap.objs.size) (PIE X pins σ tg R) E { s with heap:=s.heap.push { cls:=.type "range",data:=.fields (List.toArray [.int lo t,.int hi u,.int 1 v]) },toks:=tk }:=by
 refine wpAny_pyIter_range (IsRange.new ..) (small_one h1 h2 h3 h4) ?_;have I1:Inv X pins σ H { s with heap:=s.heap.push { cls:=.type "range",data:=.fields (List.toArray [.int lo t,.int hi u,.int 1 v]) },toks:=tk }:=I.kept λb o e=>Gr _ e;show#[(s.heap.push { cls:=.type "range",data:=.fields (List.toArray [.int lo t,.int hi u,.int 1 v]) }).objs.size,[(s.heap.push { cls:=.type "range",data:=.fields (List.toArray [.int lo t,.int hi u,.int 1 v]) }).objs.size],4,H,rfl,
   I1.kept (t':=tk) λb o e=>Gr _ e,Fs _ lo (hi - lo).toNat,?_,λb hb=>?_,q]
 . have e1:lo+((0:Nat):Int) * 1=lo:=by simp
   have e2:(((hi - lo).toNat:Nat):Int) - ((0:Nat):Int)=Builtin.Range.rangeSize lo hi 1:=by rw[rangeSize_one]; split <;> lia
   show IsRangeIter _ _ (lo+((0:Nat):Int) * 1) ((((hi - lo).toNat:Nat):Int) - ((0:Nat):Int)) 1;rw[e1,e2];exact HR _ rfl
 . have e:b=(s.heap.push { cls:=.type "range",data:=.fields (List.toArray [.int lo t,.int hi u,.int 1 v]) }).objs.size:=↑hb
   subst e;exact I1.fpOk (Gw _) (I1.hok.fresh (Gw _))
abbrev B7 (ta:TA):TI:=λσ H R=>ta σ H λvs H1=>∃j:Int,vs=[.int j]/\-(2 ^ 62)<=j/\j<2 ^ 62/\R (gh 0 j.toNat) H1
abbrev BO (ta:TA):TI:=λσ H R=>ta σ H λvs H1=>∃i j:Int,vs=[.int i,.int j]/\(-(2 ^ 62)<=i/\i<2 ^ 62/\-(2 ^ 62)<=j/\j<2 ^ 62)/\R (gh i (j - i).toNat) H1
def lF {a:Expr} {ta:TA} {p:Pos}(hg:Gl X "range") (hm:X.mg "range"=none) (ha:PA X [a] ta) (hs:starEach [a] X.env=[(false,eval a X.env)]:=by rfl):PI X tg (.Call (.Name "range" p) [a] [] pos) (B7 ta):=by
 intro pins s σ H R I h;refine Call_ (fD I hg hm boot_range (IF (aW (ha pos pins s σ H _ I h) λus s1 z37_=>?_) hs rfl));let#[vs,H1,I1,r1,q1]:=z37_;let#[j,e,q1,q2,q]:=q1;subst e;cases r1 with
 | cons r rr =>
   cases rr;let#[t,rfl]:=r;exact call_range_1 (uO I1 ∅ ∅ q1 q2 ↑q)
def Dz {a b:Expr} {ta:TA} {p:Pos}(hg:Gl X "range") (hm:X.mg "range"=none) (ha:PA X [a,b] ta) (hs:starEach [a,b] X.env=[(false,eval a X.env),(false,eval b X.env)]:=by rfl) (hs2:starEach [b] X.env=[(false,eval b X.env)]:=by rfl) :
   PI X tg (.Call (.Name "range" p) [a,b] [] pos) (BO ta):=by
 intro pins s σ H R I h;refine Call_ (fD I hg hm boot_range (IF (aW (ha pos pins s σ H _ I h) λus s1 z38_=>?_) (by rw[hs,hs2]) (by rw[hs2]; rfl)));let#[vs,H1,I1,r1,q1]:=z38_;obtain⟨i,j,e,⟨q1,q2,q3,q4⟩,q⟩:=q1;subst e;cases r1 with
 | cons r rr =>
   cases rr with
   | cons r' rr =>
     cases rr;let#[t,rfl]:=r;let#[t',rfl]:=r';exact call_range_2 (uO I1 q1 q2 q3 q4 q)
abbrev Ga (wi:TI) (g:TG) (tb:TS):TS:=λD σ H=>wi σ H λJ H1=>∃W:Nat->Nat->St->Hp->Prop,(∃m,W 0 m σ H1)/\∀i m σ H,W i m σ H ->
 (J.stop i H/\D.nx σ H)\/(J.go i H/\∃N:St->Hp->Prop,(∀σ' H',N σ' H'->∃m',m'<m/\W (i+1) m' σ' H')/\∀x H',J.yld i H x H'->g x σ H' λσ2 H2=>tb { D with nx:=N,ct:=N,bk:=D.nx } σ2 H2)
abbrev je (fp:List Kg) (h:Heap):List (Kg×Obj):=fp.filterMap λb=>(h.get? b).map λo=>(b,o)
def lZ {fp:List Kg} {o:Obj} (hb:b∈fp) (e:h.get? b=⇑o):(b,o)∈je fp h:=K6.mpr #[b,hb,by rw[e]; rfl]
def D4 {fp:List Kg} {p:Kg×Obj} (hp:p∈je fp h):p.1∈fp/\h.get? p.1=⇑p.2:=by
 let#[b,hb,e]:=K6.mp hp;cases q:h.get? b with
 | none=>rw[q] at e; cases e
 | some o =>
   rw[q] at e;have e':(b,o)=p:=Option.some.inj e;subst e';show#[hb,q]
def Inv.pinned {fp:List Kg} (I:Inv X pins σ H s) (hf:∀b∈fp,eZ X pins H b) (ho:∀b∈fp,∃o,s.heap.get? b=⇑o/\∀v,o.data≠.cell v):Inv X (pins++je fp s.heap) σ H s :=
 I.pins_of λp hp=>(HW.mp hp).elim (λz=>I.pin p (HS _ z)) λz=>by let#[hb,e]:=D4 z;let#[f0,f1,f2,_]:=hf p.1 hb;let#[o,e',d]:=ho p.1 hb;rw[e] at e'; cases e';show#[e,f0,f1,f2,d]
def Inv.unpinned {pl:List (Kg×Obj)}(I:Inv X (pins++pl) σ H s):Inv X pins σ H s:=I.pins_of λp hp=>I.pin p (HS _ (Hx _ hp))
def cG {iter:Expr} {body:List Stmt} {wi:TI} (hp:PassesOwn 0x8 X.A X.env X.xe) (hc:X.calm=true) (hi:PI X tg iter wi) (hg:PG X tg g) (hb:aV X body tb)
   (hs:∀x,foldedSetIterable iter X.env x=pure x:=by intro _; rfl):PS X (.For tg iter body [] pos) (Ga wi g tb):=by
 intro pins s σ H D I h;refine wpAny_For (aW (hi pins s σ H _ I h) λv s1 h1=>aW h1 λitv s2 h2=>?_) hs;obtain⟨it,fp,tn,J,H2,e,I2,T,st2,f2,W,⟨m0,w0⟩,turn⟩:=h2;subst e
 -- what stays true of the iterator's objects through the loop
 have stat:∀{H':Hp},(∀b∈fp,H' b=none)->∀b∈fp,eZ X pins H' b:=λhn b hb=>#[hn b hb,(f2 b hb).2]
 refine codeAny_forLoop_any (λn s'=>∃i σ' H',Inv X pins σ' H' s'/\tn i s'.heap/\(∀b∈fp,H' b=none)/\W i n σ' H') ?_ m0 #[(0),σ,H2,I2,st2,λb hb=>(f2 b hb).1,w0];rintro n s3 ⟨i,σ3,H3,I3,st3,fr3,w3⟩;rcases turn i n σ3 H3 w3 with⟨stop,qn⟩|⟨go,N,hN,step⟩
 . refine Iy hp (aW (T.done X rfl rfl rfl hc i pins s3 σ3 H3 X.xe I3 (stat fr3) st3 stop) λr s4 z39_=>?_);let#[hr,I4]:=z39_;subst hr;exact Jr #[σ3,H3,I4,qn]
 . refine Iy hp (aW (T.item X rfl rfl rfl hc i pins s3 σ3 H3 X.xe I3 (stat fr3) st3 go) λr s4 z40_=>?_);let#[u,hr,h4]:=z40_;subst hr;refine Iy hp (aW h4 λ_ s5 z41_=>?_);let#[x,H5,I5,r5,y5,st5,fr5]:=z41_;have I5':=I5.pinned (stat fr5) (T.obj _ _ st5);refine Iy hp (aW (hg _ s5 σ3 H5 x u _ I5' r5 (step x H5 y5)) λ_ s6 z42_=>?_);let#[σ6,H6,I6,q6]:=z42_;refine Iy hp (aW (hb _ s6 σ6 H6 _ I6 q6) λf s7 q7=>?_);have again:∀{σ7:St} {H7:Hp},Inv X (pins++je fp s5.heap) σ7 H7 s7->N σ7 H7->∃m,m<n/\∃i σ' H',Inv X pins σ' H' s7/\tn i s7.heap/\(∀b∈fp,H' b=none)/\W i m σ' H':=λ{σ7 H7} I7 n7=>by let#[m',hm,w7]:=hN σ7 H7 n7;show#[m',hm,i+1,σ7,H7,I7.unpinned,T.keep _ _ _ st5 λb hb o e=>(I7.pin (b,o) (HS _ (HS _ (lZ hb e)))).1,λb hb=>?_,w7];let#[o,e,d]:=T.obj _ _ st5 b hb;exact(I7.pin (b,o) (HS _ (HS _ (lZ hb e)))).2.1
   cases f with
   | next=>let#[σ7,H7,I7,n7]:=q7; exact again I7 n7
   | cont=>let#[σ7,H7,I7,n7]:=q7; exact again I7 n7
   | brk=>let#[σ7,H7,I7,q7]:=q7; show#[σ7,H7,I7.unpinned,q7]
   | ret v=>let#[x7,σ7,H7,I7,r7,q7]:=q7; show#[x7,σ7,H7,I7.unpinned,r7,q7]
end
def gX {xs:List V} {D:Ends} (Pv:Nat->St->Hp->Prop) (h0:Pv 0 σ H) (hl:∀i σ H,i<=xs.length->Pv i σ H->aG K H a xs)
   (hs:∀i x σ H,xs[i]?=⇑x->Pv i σ H->g x σ H λσ2 H2=>tb { D with nx:=Pv (i+1),ct:=Pv (i+1),bk:=D.nx } σ2 H2) (hd:∀σ H,Pv xs.length σ H->D.nx σ H) :
   ∃W:Nat->Nat->St->Hp->Prop,(∃m,W 0 m σ H)/\∀i m σ H,W i m σ H ->
     ((gv K a).stop i H/\D.nx σ H)\/((gv K a).go i H/\∃N:St->Hp->Prop,(∀σ' H',N σ' H'->∃m',m'<m/\W (i+1) m' σ' H')/\∀x H',(gv K a).yld i H x H'->g x σ H' λσ2 H2=>tb { D with nx:=N,ct:=N,bk:=D.nx } σ2 H2):=by
 show#[λi m σ H=>m=xs.length - i/\i<=xs.length/\Pv i σ H,#[xs.length,by simp,Hj _,h0],?_];rintro i m σ H ⟨rfl,hi,p⟩;have q:=hl i σ H hi p;by_cases hlt:i<xs.length
 . refine .inr #[#[xs,xs[i],q,by simp [hlt]],Pv (i+1),λσ' H' p'=>#[xs.length - (i+1),∅,rfl,hlt,p'],λx H' y=>?_];let#[e,y]:=y;subst e;exact hs i x σ _ (y xs q) p
 . have e:i=xs.length:=by lia
   subst e;exact .inl #[#[xs,q,Gw _],hd σ H p]
def nH {xs:List V} {D:Ends} (Pv:Nat->St->Hp->Prop) (h0:Pv 0 σ H) (hl:∀i σ H,i<=xs.length->Pv i σ H->aN K H a xs)
   (hs:∀i x σ H,xs[i]?=⇑x->Pv i σ H->g x σ H λσ2 H2=>tb { D with nx:=Pv (i+1),ct:=Pv (i+1),bk:=D.nx } σ2 H2) (hd:∀σ H,Pv xs.length σ H->D.nx σ H) :
   ∃W:Nat->Nat->St->Hp->Prop,(∃m,W 0 m σ H)/\∀i m σ H,W i m σ H ->
     ((hX K a).stop i H/\D.nx σ H)\/((hX K a).go i H/\∃N:St->Hp->Prop,(∀σ' H',N σ' H'->∃m',m'<m/\W (i+1) m' σ' H')/\∀x H',(hX K a).yld i H x H'->g x σ H' λσ2 H2=>tb { D with nx:=N,ct:=N,bk:=D.nx } σ2 H2):=by
 show#[λi m σ H=>m=xs.length - i/\i<=xs.length/\Pv i σ H,#[xs.length,by simp,Hj _,h0],?_];rintro i m σ H ⟨rfl,hi,p⟩;have q:=hl i σ H hi p;by_cases hlt:i<xs.length
 . refine .inr #[#[xs,xs[i],q,by simp [hlt]],Pv (i+1),λσ' H' p'=>#[xs.length - (i+1),∅,rfl,hlt,p'],λx H' y=>?_];let#[e,y]:=y;subst e;exact hs i x σ _ (y xs q) p
 . have e:i=xs.length:=by lia
   subst e;exact .inl #[#[xs,q,Gw _],hd σ H p]
def k9 {lo:Int} {n:Nat} {D:Ends} (Pv:Nat->St->Hp->Prop) (h0:Pv 0 σ H)
   (hs:∀i σ H,i<n->Pv i σ H->g (.int (lo+i)) σ H λσ2 H2=>tb { D with nx:=Pv (i+1),ct:=Pv (i+1),bk:=D.nx } σ2 H2) (hd:∀σ H,Pv n σ H->D.nx σ H) :
   ∃W:Nat->Nat->St->Hp->Prop,(∃m,W 0 m σ H)/\∀i m σ H,W i m σ H ->
     ((gh lo n).stop i H/\D.nx σ H)\/((gh lo n).go i H/\∃N:St->Hp->Prop,(∀σ' H',N σ' H'->∃m',m'<m/\W (i+1) m' σ' H')/\∀x H',(gh lo n).yld i H x H'->g x σ H' λσ2 H2=>tb { D with nx:=N,ct:=N,bk:=D.nx } σ2 H2):=by
 show#[λi m σ H=>m=n - i/\i<=n/\Pv i σ H,#[n,by simp,Hj _,h0],?_];rintro i m σ H ⟨rfl,hi,p⟩;by_cases hlt:i<n
 . refine .inr #[hlt,Pv (i+1),λσ' H' p'=>#[n - (i+1),∅,rfl,hlt,p'],λx H' y=>?_];let#[e,y]:=y;subst e y;exact hs i σ _ hlt p
 . have e:i=n:=by lia
   subst e;exact .inl #[Gw _,hd σ H p]
noncomputable abbrev R2:=V->V->Hp->VK->Prop
abbrev bU (X:Cx) (f:Ke->Ke->Sem Ke) (r:R2):Prop :=
 ∀(pins:List (Kg×Obj)) (s:Kf) (σ:St) (H:Hp) (x y:V) (v u:Ke) (Q:VK),Inv X pins σ H s->ag x v->ag y u->r x y H Q ->
   wpAny 0x8 X.A (f v u) (EP X pins σ Q) X.xe s
abbrev nG (X:Cx) (f:Ke->Sem Ke) (r:V->Hp->VK->Prop):Prop :=
 ∀(pins:List (Kg×Obj)) (s:Kf) (σ:St) (H:Hp) (x:V) (v:Ke) (Q:VK),Inv X pins σ H s->ag x v->r x H Q ->
   wpAny 0x8 X.A (f v) (EP X pins σ Q) X.xe s
abbrev bh (X:Cx) (f:Ke) (r:List V->Hp->VK->Prop):Prop :=
 ∀(pins:List (Kg×Obj)) (s:Kf) (σ:St) (H:Hp) (xs:List V) (us:List Ke) (Q:VK),Inv X pins σ H s->ae xs us->r xs H Q ->
   wpAny 0x8 X.A (call f us) (EP X pins σ Q) X.xe s
abbrev zN (X:Cx) (r:V->Hp->(Bool->Hp->Prop)->Prop):Prop :=
 ∀(pins:List (Kg×Obj)) (s:Kf) (σ:St) (H:Hp) (x:V) (v:Ke) (Q:Bool->Hp->Prop),Inv X pins σ H s->ag x v->r x H Q ->
   wpAny 0x8 X.A (truthy v) (TP X pins σ Q) X.xe s
abbrev jO (r:R2) (ta tb:TE):TE:=λσ H Q=>ta σ H λx H1=>tb σ H1 λy H2=>r x y H2 Q
abbrev tUn (r:V->Hp->VK->Prop) (ta:TE):TE:=λσ H Q=>ta σ H λx H1=>r x H1 Q
abbrev rI (C:Int->Int->Prop) (g:Int->Int->V):R2:=λx y H Q=>∃i j,x=.int i/\y=.int j/\C i j/\Q (g i j) H
abbrev ej (g:Int->Int->V):R2:=λx y H Q=>∃i j,x=.int i/\y=.int j/\Q (g i j) H
abbrev rU (g:Int->V):V->Hp->VK->Prop:=λx H Q=>∃i,x=.int i/\Q (g i) H
section
variable {X:Cx} {a b c:Expr} {ta tb tc:TE} {pos:Pos}
def md (ha:PE X a ta) (hb:PE X b tb) {R:V->V->Hp->Prop} (I:Inv X pins σ H s)
   (h:ta σ H λx H1=>tb σ H1 λy H2=>R x y H2) {Q:Ke->Kf->Prop} {f:Ke->Ke->Sem Ke}
   (hf:∀v u s2 x y H2,Inv X pins σ H2 s2->ag x v->ag y u->R x y H2->wpAny 0x8 X.A (f v u) Q X.xe s2) :
   wpAny 0x8 X.A (eval a X.env) (λv s₁=>wpAny 0x8 X.A (eval b X.env) (λu s₂=>wpAny 0x8 X.A (f v u) Q X.xe s₂) X.xe s₁) X.xe s:=by
 refine aW (ha pins s σ H _ I h) λv s1 z44_=>?_;let#[x,H1,I1,r1,q1]:=z44_;refine aW (hb pins s1 σ H1 _ I1 q1) λu s2 z45_=>?_;let#[y,H2,I2,r2,q2]:=z45_;exact hf v u s2 x y H2 I2 r1 r2 q2
def aS {op:Operator} {r:R2} (ho:bU X (binaryOp op) r) (ha:PE X a ta) (hb:PE X b tb):PE X (.BinOp a op b pos) (jO r ta tb):=by intro pins s σ H Q I h;exact wpAny_BinOp (md ha hb I h λv u s2 x y H2 I2 rx ry q=>ho pins s2 σ H2 x y v u Q I2 rx ry q)
def dG {op:UnaryOp} {r:V->Hp->VK->Prop} (ho:nG X (unaryOp op) r) (ha:PE X a ta):PE X (.UnaryOp op a pos) (tUn r ta):=by intro pins s σ H Q I h;exact UnaryOp_ (aW (ha pins s σ H _ I h) λv s1 z46_=>by let#[x,H1,I1,r1,q1]:=z46_; exact ho pins s1 σ H1 x v Q I1 r1 q1)
def j8 {f:Ke->Ke->Sem Ke} {C:Int->Int->Prop} {g:Int->Int->Int}
   (rule:∀(i j:Int) (t u:Tok) (s:Kf) (Q:Ke->Kf->Prop) (E:Ke->Kf->Prop),C i j->Q (.int (g i j) s.toks) { s with toks:=s.toks+1 }->wpAny 0x8 X.A (f (.int i t) (.int j u)) Q E s) :
   bU X f (rI C λi j=>.int (g i j)):=by
 intro pins s σ H x y v u Q I rx ry h;let#[i,j,rfl,rfl,hc,q]:=h;let#[t,rfl]:=rx;let#[t',rfl]:=ry;exact rule i j t t' s _ _ hc #[.int (g i j),H,I.tok _,#[5],q]
def jw {f:Ke->Ke->Sem Ke} {g:Int->Int->Int}
   (rule:∀(i j:Int) (t u:Tok) (s:Kf) (Q:Ke->Kf->Prop) (E:Ke->Kf->Prop),Q (.int (g i j) s.toks) { s with toks:=s.toks+1 }->wpAny 0x8 X.A (f (.int i t) (.int j u)) Q E s) :
   bU X f (ej λi j=>.int (g i j)):=by
 intro pins s σ H x y v u Q I rx ry h;let#[i,j,rfl,rfl,q]:=h;let#[t,rfl]:=rx;let#[t',rfl]:=ry;exact rule i j t t' s _ _ #[.int (g i j),H,I.tok _,#[5],q]
def oj {f:Ke->Ke->Sem Ke} {g:Int->Int->Bool}
   (rule:∀(i j:Int) (t u:Tok) (s:Kf) (Q:Ke->Kf->Prop) (E:Ke->Kf->Prop),Q (.bool (g i j)) s->wpAny 0x8 X.A (f (.int i t) (.int j u)) Q E s) :
   bU X f (ej λi j=>.bl (g i j)):=by
 intro pins s σ H x y v u Q I rx ry h;let#[i,j,rfl,rfl,q]:=h;let#[t,rfl]:=rx;let#[t',rfl]:=ry;exact rule i j t t' s _ _ #[.bl (g i j),H,I,rfl,q]
abbrev oU (i j:Int):Prop:=0<j/\j<1073741824
abbrev Ap (i j:Int):Prop:=0<=j/\j<=1000000/\i.natAbs<2 ^ 64
abbrev nj (i j:Int):Prop:=(-(2 ^ 64)<i/\i<2 ^ 64)\/(-(2 ^ 64)<j/\j<2 ^ 64)
def nj.ok {i j:Int} (h:nj i j):IntMulOk i j:=by
 rcases h with⟨h1,h2⟩|⟨h1,h2⟩
 . exact .of_left (intBits_le_64 h1 h2)
 . exact .of_right (intBits_le_64 h1 h2)
def cV:bU X (binaryOp .Add) (ej λi j=>.int (i+j)):=jw λ_ _ _ _ _ _ _ q=>add_int q
def dS:bU X (binaryOp .Sub) (ej λi j=>.int (i - j)):=jw λ_ _ _ _ _ _ _ q=>sub_int q
def fS:bU X (binaryOp .Mult) (rI nj λi j=>.int (i * j)):=j8 λ_ _ _ _ _ _ _ hc q=>mul_int q hc.ok
def jP:bU X (binaryOp .FloorDiv) (rI oU λi j=>.int (i / j)):=j8 λi j _ _ _ _ _ hc q=>by have h1:(0:Int)<j:=hc.1;have h2:j<1073741824:=hc.2;exact floordiv_int ∅ (by rw[KB i ∅]; exact q) (.inl (PyProof.noPylong_small ∅))
def cN:bU X (binaryOp .Mod) (rI (λ_ j=>0<j) λi j=>.int (i%j)):=j8 λi j _ _ _ _ _ hc q=>by have h1:(0:Int)<j:=hc;exact mod_int' ∅ (by rw[Int.fmod_eq_emod_of_nonneg i ∅]; exact q)
def j5:bU X (binaryOp .Pow) (rI Ap λi j=>.int (i ^ j.toNat)):=j8 λ_ _ _ _ _ _ _ hc q=>pow_int_small hc.1 hc.2.1 hc.2.2 q
def uP:bU X (binaryOp .BitAnd) (ej λi j=>.int (Builtin.bitAnd i j)):=jw λ_ _ _ _ _ _ _ q=>and_int q
def uT:bU X (binaryOp .BitOr) (ej λi j=>.int (Builtin.bitOr i j)):=jw λ_ _ _ _ _ _ _ q=>or_int q
def pd:bU X (binaryOp .BitXor) (ej λi j=>.int (Builtin.bitXor i j)):=jw λ_ _ _ _ _ _ _ q=>xor_int q
def unI {f:Ke->Sem Ke} {g:Int->Int}
   (rule:∀(i:Int) (t:Tok) (s:Kf) (Q:Ke->Kf->Prop) (E:Ke->Kf->Prop),Q (.int (g i) s.toks) { s with toks:=s.toks+1 }->wpAny 0x8 X.A (f (.int i t)) Q E s) :
   nG X f (rU λi=>.int (g i)):=by
 intro pins s σ H x v Q I rx h;let#[i,rfl,q]:=h;let#[t,rfl]:=rx;exact rule i t s _ _ #[.int (g i),H,I.tok _,#[5],q]
def dD:nG X (unaryOp .USub) (rU λi=>.int (-i)):=unI λ_ _ _ _ _ q=>neg_int q
end
abbrev sj:V->V->Bool
 | .non,.non=>true | .non,.int _=>true | .int _,.non=>true | .non,.bl _=>true | .bl _,.non=>true | .non,.str _=>true | .str _,.non=>true
 | .int _,.int _=>true | .bl _,.bl _=>true | .str _,.str _=>true | .byt _,.byt _=>true
 | .int _,.str _=>true | .str _,.int _=>true | .bl _,.str _=>true | .str _,.bl _=>true
 | _,_=>false
abbrev rEq:R2:=λx y H Q=>sj x y=true/\Q (.bl (decide (x=y))) H
abbrev rNe:R2:=λx y H Q=>sj x y=true/\Q (.bl (!decide (x=y))) H
def rm {i j:Int}:decide (V.int i=V.int j)=(i==j):=by rw[Ip];simp
def tF {i j:Bool}:decide (V.bl i=V.bl j)=(i==j):=by rw[Ip];simp
def rB {i j:Str}:decide (V.str i=V.str j)=(i==j):=by rw[Ip];simp
def qP {i j:Array UInt8}:decide (V.byt i=V.byt j)=(i.toList==j.toList):=by rw[Ip];cases i;cases j;simp
section
variable {X:Cx} {a b c:Expr} {ta tb tc:TE} {pos:Pos}
def bv {Q:VK} {k k':Bool} (I:Inv X pins σ H s) (q:Q (.bl k) H) (e:k=k'):EP X pins σ Q (.bool k') s:=by subst e;show#[.bl k,H,I,rfl,q]
def b7:bU X (compareOp .Eq) rEq:=by
 intro pins s σ H x y v u Q I rx ry h;let#[hs,q]:=h;cases x with
 | non =>
   cases rx;cases y with
   | non=>cases ry; exact PySem.EqNone.eq_none_none (bv I q 0xA)
   | bl j=>cases ry; exact PySem.EqNone.eq_none_bool (bv I q 0xA)
   | int j=>let#[t',rfl]:=ry; exact PySem.EqNone.eq_none_int (bv I q 0xA)
   | str j=>let#[t',rfl]:=ry; exact PySem.EqNone.eq_none_str (bv I q 0xA)
   | _=>exact absurd (show false=true from hs) Hd
 | bl i =>
   cases rx;cases y with
   | non=>cases ry; exact PySem.EqNone.eq_bool_none (bv I q 0xA)
   | bl j=>cases ry; exact eq_bool (bv I q tF)
   | str j=>let#[t',rfl]:=ry; exact PySem.EqMixed.eq_bool_str (bv I q 0xA)
   | _=>exact absurd (show false=true from hs) Hd
 | int i =>
   let#[t,rfl]:=rx;cases y with
   | non=>cases ry; exact PySem.EqNone.eq_int_none (bv I q 0xA)
   | int j=>let#[t',rfl]:=ry; exact eq_int (bv I q rm)
   | str j=>let#[t',rfl]:=ry; exact PySem.EqMixed.eq_int_str (bv I q 0xA)
   | _=>exact absurd (show false=true from hs) Hd
 | str i =>
   let#[t,rfl]:=rx;cases y with
   | non=>cases ry; exact PySem.EqNone.eq_str_none (bv I q 0xA)
   | bl j=>cases ry; exact PySem.EqMixed.eq_str_bool (bv I q 0xA)
   | int j=>let#[t',rfl]:=ry; exact PySem.EqMixed.eq_str_int (bv I q 0xA)
   | str j=>let#[t',rfl]:=ry; exact eq_str (bv I q rB)
   | _=>exact absurd (show false=true from hs) Hd
 | byt i =>
   let#[t,rfl]:=rx;cases y with
   | byt j=>let#[t',rfl]:=ry; exact PySem.W.eq_bytes (bv I q qP)
   | _=>exact absurd (show false=true from hs) Hd
 | _=>cases y <;> exact absurd (show false=true from hs) Hd
def mE:bU X (compareOp .NotEq) rNe:=by
 intro pins s σ H x y v u Q I rx ry h;let#[hs,q]:=h;cases x with
 | non =>
   cases rx;cases y with
   | non=>cases ry; exact PySem.EqNone.ne_none_none (bv I q 0xA)
   | bl j=>cases ry; exact PySem.EqNone.ne_none_bool (bv I q 0xA)
   | int j=>let#[t',rfl]:=ry; exact PySem.EqNone.ne_none_int (bv I q 0xA)
   | str j=>let#[t',rfl]:=ry; exact PySem.EqNone.ne_none_str (bv I q 0xA)
   | _=>exact absurd (show false=true from hs) Hd
 | bl i =>
   cases rx;cases y with
   | non=>cases ry; exact PySem.EqNone.ne_bool_none (bv I q 0xA)
   | bl j=>cases ry; exact ne_bool (bv I q (HY not tF))
   | str j=>let#[t',rfl]:=ry; exact PySem.EqMixed.ne_bool_str (bv I q 0xA)
   | _=>exact absurd (show false=true from hs) Hd
 | int i =>
   let#[t,rfl]:=rx;cases y with
   | non=>cases ry; exact PySem.EqNone.ne_int_none (bv I q 0xA)
   | int j=>let#[t',rfl]:=ry; exact ne_int (bv I q (HY not rm))
   | str j=>let#[t',rfl]:=ry; exact PySem.EqMixed.ne_int_str (bv I q 0xA)
   | _=>exact absurd (show false=true from hs) Hd
 | str i =>
   let#[t,rfl]:=rx;cases y with
   | non=>cases ry; exact PySem.EqNone.ne_str_none (bv I q 0xA)
   | bl j=>cases ry; exact PySem.EqMixed.ne_str_bool (bv I q 0xA)
   | int j=>let#[t',rfl]:=ry; exact PySem.EqMixed.ne_str_int (bv I q 0xA)
   | str j=>let#[t',rfl]:=ry; exact ne_str (bv I q (HY not rB))
   | _=>exact absurd (show false=true from hs) Hd
 | byt i =>
   let#[t,rfl]:=rx;cases y with
   | byt j=>let#[t',rfl]:=ry; exact PySem.W.ne_bytes (bv I q (HY not qP))
   | _=>exact absurd (show false=true from hs) Hd
 | _=>cases y <;> exact absurd (show false=true from hs) Hd
def g9:bU X (compareOp .Lt) (ej λi j=>.bl (decide (i<j))):=oj λ_ _ _ _ _ _ _ q=>lt_int q
def i':bU X (compareOp .Gt) (ej λi j=>.bl (decide (j<i))):=oj λ_ _ _ _ _ _ _ q=>gt_int q
def Ff:bU X (compareOp .GtE) (ej λi j=>.bl (decide (j<=i))):=oj λ_ _ _ _ _ _ _ q=>ge_int q
def aY (b:Expr) (h:op≠.In:=by decide) (h2:op≠.NotIn:=by decide):behindInMarks op b=false:=by
 have e1:(op==CmpOp.In)=false:=by cases op <;> first|rfl|exact absurd rfl h
 have e2:(op==CmpOp.NotIn)=false:=by cases op <;> first|rfl|exact absurd rfl h2
 cases b <;> simp [behindInMarks,e1,e2]
def dA {r:R2} (ho:bU X (compareOp op) r) (ha:PE X a ta) (hb:PE X b tb) (hm:behindInMarks op b=false):PE X (.Compare a [op] [b] pos) (jO r ta tb):=by intro pins s σ H Q I h;exact wpAny_Compare1 (md ha hb I h λv u s2 x y H2 I2 rx ry q=>ho pins s2 σ H2 x y v u Q I2 rx ry q) hm
abbrev Ei (t:TE):TT:=λσ H Q=>t σ H λx H'=>∃k,x=.bl k/\Q k H'
def bL {r:R2} (ho:bU X (compareOp op) r) (ha:PE X a ta) (hb:PE X b tb) (hm:behindInMarks op b=false):PT X (.Compare a [op] [b] pos) (Ei (jO r ta tb)):=by
 intro pins s σ H Q I h;refine Jn (aW (ha pins s σ H _ I h) λv s1 ⟨x,H1,I1,r1,q1⟩=>aW (hb pins s1 σ H1 _ I1 q1) λu s2 ⟨y,H2,I2,r2,q2⟩ =>
   aW (ho pins s2 σ H2 x y v u _ I2 r1 r2 q2) λc s3 ⟨z,H3,I3,r3,k,e,q3⟩=>?_) hm
 subst e;cases r3;exact Ic #[H3,I3,q3]
abbrev nr (K:Kh) (x:V) (H:Hp) (k:Bool):Prop :=
 match x with
 | .non=>k=false
 | .bl b=>k=b
 | .int i=>k=(i != 0)
 | .str y=>y.length<=sizeLine/\k=((y.length:Int) != 0)
 | .byt y=>y.size<=sizeLine/\k=((y.size:Int) != 0)
 | .ref p=>(∃xs,aG K H p xs/\k=!xs.isEmpty)\/(∃xs,aN K H p xs/\k=!xs.isEmpty)\/∃kvs,H p=⇑(.dK kvs)/\k=!kvs.isEmpty
 | _=>False
def zk {κ:Type} {kvs:List (κ×V)} {vs:List (κ×Ke)} (r:KV kvs vs):(!vs.isEmpty)=!kvs.isEmpty:=by cases r <;> rfl
def qN {xs:List V} {its:List Ke} (r:ae xs its):(!its.toArray.isEmpty)=!xs.isEmpty:=by cases r <;> simp
def iR:(sizeLine:Nat)<2 ^ 63:=by rw[sizeLine_eq]; decide
def FV:zN X (λx H Q=>∃k,nr X.K x H k/\Q k H):=by
 intro pins s σ H x v Q I rx h;let#[k,e,q]:=h;have hl:=iR;have hs:sizeLine=16777216:=sizeLine_eq;cases x with
 | non =>
   cases rx;have e':k=false:=e;subst e';exact truthy_none #[H,I,q]
 | bl b =>
   cases rx;have e':k=b:=e;subst e';exact Ic #[H,I,q]
 | int i =>
   let#[t,rfl]:=rx;have e':k=(i != 0):=e;subst e';exact PySem.P.truthy_int #[H,I,q]
 | str y =>
   let#[t,rfl]:=rx;obtain⟨hy,e'⟩:y.length<=sizeLine/\k=((y.length:Int) != 0):=e;subst e';exact PySem.P.truthy_str ∅ #[H,I.tok _,q]
 | byt y =>
   let#[t,rfl]:=rx;obtain⟨hy,e'⟩:y.size<=sizeLine/\k=((y.size:Int) != 0):=e;subst e';exact PySem.W.truthy_bytes ∅ #[H,I.tok _,q]
 | ref p =>
   cases rx;have e':(∃xs,aG X.K H p xs/\k=!xs.isEmpty)\/(∃xs,aN X.K H p xs/\k=!xs.isEmpty)\/∃kvs,H p=⇑(.dK kvs)/\k=!kvs.isEmpty:=e;rcases e' with⟨xs,hx,e'⟩|⟨xs,hx,e'⟩|⟨kvs,hx,e'⟩
   . subst e';let#[its,r,pl,hz]:=I.list hx;have hlen:=r.length;exact wpAny_truthy_list pl.isList (by simp only[HZ]; lia) #[H,I.tok _,by rw[qN r]; exact q]
   . subst e';let#[its,r,pl,hz]:=I.tuple hx;have hlen:=r.length;exact truthy_tuple pl (by simp only[HZ]; lia) #[H,I.tok _,by rw[qN r]; exact q]
   . subst e';obtain⟨hz,hS,vs,r,m⟩:kvs.length<=sizeLine/\(p==sysModules)=false/\∃vs,KV kvs vs/\s.heap.DictOf (c7 X.prog X.w) p vs:=I.hok p _ hx;have hlen:kvs.length=vs.length:=Paired.length r;exact wpAny_truthy_dict hS m ∅ #[H,I.tok _,by rw[zk r]; exact q]
 | _=>exact(show False from e).elim
def yp (ha:PE X a ta) (he:∀whole,isTrue a X.env whole=(do let v <- whole; standAt a.pos; holding [v] (truthy v))) :
   PT X a (λσ H Q=>ta σ H λx H'=>∃k,nr X.K x H' k/\Q k H'):=by
 intro pins s σ H Q I h;exact isTrue_plain (aW (ha pins s σ H _ I h) λv s1 z59_=>by let#[x,H1,I1,r1,q1]:=z59_; exact FV pins s1 σ H1 x v Q I1 r1 q1) (he _)
def qp:bU X (binaryOp .Add) (λx y H Q=>∃i j,x=.str i/\y=.str j/\i.length+j.length<=sizeLine/\Q (.str (i++j)) H):=by intro pins s σ H x y v u Q I rx ry h;let#[i,j,rfl,rfl,hz,q]:=h;let#[t,rfl]:=rx;let#[t',rfl]:=ry;exact add_str (λt' tk=>#[.str (i++j),H,I.tok _,#[5],q]) hz
def gJ {x:V} (r:ae [x] us):∃u,us=[u]/\ag x u:=by
 cases r with
 | cons r1 r2=>cases r2; show#[5,r1]
def nJ {x y:V} (r:ae [x,y] us):∃u w',us=[u,w']/\ag x u/\ag y w':=by
 cases r with
 | cons r1 r2 =>
   cases r2 with
   | cons r3 r4=>cases r4; show#[9,r1,r3]
def uU (hc:X.calm=true):bh X (.builtin "max") (λxs H Q=>∃i j,xs=[.int i,.int j]/\Q (.int (if j > i then j else i)) H):=by
 intro pins s σ H xs us Q I r h;let#[i,j,rfl,q]:=h;obtain⟨u,w',rfl,⟨t,rfl⟩,⟨t',rfl⟩⟩:=nJ r;refine max_two_ints (I.ok.hd hc) λh' tk k=>#[_,H,I.kept k,?_,q]
 by_cases hj:j > i
 . rw[HI hj,HI hj]; show#[5]
 . rw[Gu hj,Gu hj]; show#[5]
def G0 (hc:X.calm=true):bh X (.builtin "min") (λxs H Q=>∃i j,xs=[.int i,.int j]/\Q (.int (if j<i then j else i)) H):=by
 intro pins s σ H xs us Q I r h;let#[i,j,rfl,q]:=h;obtain⟨u,w',rfl,⟨t,rfl⟩,⟨t',rfl⟩⟩:=nJ r;refine min_two_ints (I.ok.hd hc) λh' tk k=>#[_,H,I.kept k,?_,q]
 by_cases hj:j<i
 . rw[HI hj,HI hj]; show#[5]
 . rw[Gu hj,Gu hj]; show#[5]
def fH:bh X (.type "int") (λxs H Q=>(∃i,xs=[.int i]/\Q (.int i) H)\/∃k,xs=[.bl k]/\Q (.int (if k then 1 else 0)) H):=by
 intro pins s σ H xs us Q I r h;rcases h with⟨i,rfl,q⟩|⟨k,rfl,q⟩
 . let#[u,rfl,t,rfl]:=gJ r;exact call_int_int #[.int i,H,I,#[5],q]
 . let#[u,rfl,r1]:=gJ r;cases r1;exact call_int_bool #[.int (if k then 1 else 0),H,I.tok _,#[5],q]
end
structure ObjM (h:Heap) (x dx C:Addr) (mA:Str->Option Value):Prop where
 obj:h.get? x=⇑(PySem.W.instObj C dx)
 ns:h.Ns1 dx mA
 ne:dx≠x
def E4 {dx:Kg} {mA:Str->Kd Ke} (n:h.Ns1 dx mA):∃od,h.get? dx=⇑od/\∀name,PySem.W.lookIn name od=⇑(mA name):=by
 let#[o,es,ep,ho,hd,hk,_,hm]:=n;show#[o,ho,λname=>?_];have e:=hm name;unfold nsFind findBy at e;rw[<- Array.find?_toList] at e;unfold PySem.W.lookIn;rw[hd];dsimp only;split
 . rename_i y q
   rw[q] at e;exact HY some e
 . rename_i q
   rw[q] at e;have a:es.toList.any (·.refKey)=false:=by rw[List.any_eq_false];intro y hy;let#[z,t,hkey]:=hk y (Array.mem_toList_iff.mp hy);simp [DictEntry.refKey,hkey]
   have a':¬ es.toList.any (·.refKey)=true:=by rw[a]; exact Hd
   rw[Gu a'];exact HY some e
variable {C:Kg}
def ObjM.look {x dx:Kg}{mA:Str->Kd Ke} (I:ObjM h x dx C mA):∃od,PySem.W.InstAt h x (PySem.W.instObj C dx) C ⇑od/\∀name,PySem.W.lookIn name od=⇑(mA name) :=
 let ⟨od,ho,hl⟩:=E4 I.ns
 #[od,#[I.obj,7,ho],hl]
variable {pl:Sem Bool}
section
variable {prog:Program} {w:World} {A:Around} {E:Ke->Kf->Prop} {s:Kf} {K:Kh} {x dx C f:Kg} {mA:Str->Kd Ke} {name:Str} {v:Ke}
def A9 {expr:Bool} {Q:Ke->Kf->Prop} (X:K.In s.heap) (I:ObjM s.heap x dx C mA) (hg:PySem.W.plainGet K C name=true) (hh:PySem.W.hasDictIn K C=true)
   (ha:PySem.W.findIn K ↥C name=⇑none) (hv:mA name=⇑v) (hv':PySem.W.handedIn v=true) (h:Q v { s with toks:=s.toks+1 }) :
   wpAny (model prog w) A (getAttr ↥x name expr) Q E s:=by
 let#[od,J,hl]:=I.look;exact PySem.W.get_value X J (PySem.W.plainGet_of hg).1 (PySem.W.findObj_own hh ha rfl (by rw[hl,hv])) hv' h
def AQ {Q:Ke×List Ke->Kf->Prop} (X:K.In s.heap) (I:ObjM s.heap x dx C mA) (hg:PySem.W.plainGet K C name=true)
   (hf:PySem.W.findIn K ↥C name=⇑⇑↥f) (ht:PySem.W.isFn K ↥f=true) (hv:mA name=none) (h:Q (↥f,[↥x]) s) :
   wpAny (model prog w) A (getMethod ↥x name pl) Q E s:=by
 let#[od,J,hl]:=I.look;exact PySem.W.method_fn X J (PySem.W.plainGet_of hg).1 (PySem.W.plainGet_of hg).2 hf (beq_iff_eq.mp ht) (by show(PySem.W.lookIn name od).map (·.isSome)=⇑false; rw[hl,hv]; rfl) h
def Cp {ns:List Str} {Q:Unit->Kf->Prop} (X:K.In s.heap) (I:ObjM s.heap x dx C mA)
   (hs:PySem.W.findIn K ↥C "__setattr__"=⇑⇑(.builtin "object.__setattr__")) (hp:PySem.W.plainOver K C=true) (ht:PySem.W.takerIn K C name=⇑none) (hh:PySem.W.hasDictIn K C=true)
   (hw:PySem.Within mA ns) (hsz:ns.length<=sizeLine)
   (h:∀h',ObjM h' x dx C (λy=>if y=name then ⇑v else mA y)->Heap.SameBut dx s.heap h'->Q () { s with heap:=h',toks:=s.toks+2 }) :
   wpAny (model prog w) A (setAttr ↥x name v) Q E s:=by
 let#[od,J,hl]:=I.look;refine PySem.W.set_plain X J hs (PySem.W.osa_open (s:={ s with toks:=s.toks+1 }) (r:=none) X J hp ht λb=>?_);let#[cd,hc,hd']:=PySem.W.any_some hh;have hx:s.heap.get? x=some ⟨↥C,⇑dx,.plain,(List.toArray [])⟩:=I.obj;refine Gp (HL (Gp (Gp (wpAny_loadPart hx (Gp (PySem.W.Looks.here (s:={ s with toks:=s.toks+1 }) (PySem.W.looks_clsIn X hc) ?_))))));rw[hd'];refine HL (a:=⇑dx) (Gp (HL (Gp ?_)));refine wpAny_nsSet1 (s:={ s with toks:=s.toks+1 }) I.ns λh' hn2 hs2=>?_;let#[oD,esD,epD,hoD,hdD,hcD]:=hn2.count (PySem.Within.cons name v hw);refine Gp (wpAny_lookBehind hoD (by rw[hdD]; exact pastItsLine_dict (Hf hcD (by rw[Hs]; lia))) ?_);exact HL (h _ #[(hs2.2 _ (Ne.symm I.ne))\I.obj,hn2,I.ne] hs2)
def Ck {R:Result->Kf->Prop} {vs:List Ke} {kw:List (Str×Ke)} (X:K.In s.heap) (hm:PySem.W.makesIn K C=true)
   (hi:PySem.W.findIn K ↥C "__init__"=⇑⇑↥f) (hf:PySem.W.typeIn K ↥f=⇑(.type "function"))
   (h:codeAny (model prog w) (A.under (.builtin "type.__call__" #[↥C::vs,kw])) (.call ↥f #[↥(s.heap.objs.size+1)::vs,kw]) (PySem.W.InitBack (s.heap.objs.size+1) R)
     { s with heap:=(s.heap.push PySem.W.emptyDict).push (PySem.W.instObj C s.heap.objs.size) }) :
   codeAny (model prog w) A (.call ↥C #[vs,kw]) R s:=by
 let#[hh,g,d,t,os]:=s;exact PySem.W.make_core (PySem.W.makes_of X hm) (PySem.W.looks_findIn X hi) (λself=>PySem.W.bind_fn X self hf) (.inl rfl) h
end
abbrev c8 (f:Str) (v:V):List (Str×V)->List (Str×V)
 | []=>[(f,v)]
 | (g,x)::r=>if g=f then(g,v)::r else(g,x)::c8 f v r
def cA (f g:Str) (v:V):∀fs:List (Str×V),(c8 f v fs).lookup g=if g=f then ⇑v else fs.lookup g
 | []=>by
   show List.lookup g [(f,v)]=_;by_cases h:g=f
   . have hb:(g==f)=true:=beq_iff_eq.mpr h;simp only[List.lookup,hb,HI h]
   . have hb:(g==f)=false:=beq_eq_false_iff_ne.mpr h;simp only[List.lookup,hb,Gu h]
 | (k,x)::r=>by
   have ih:=cA f g v r;rw[show c8 f v ((k,x)::r)=(if k=f then(k,v)::r else(k,x)::c8 f v r) from rfl];by_cases hk:k=f
   . rw[HI hk];by_cases h:g=k
     . have hb:(g==k)=true:=beq_iff_eq.mpr h;simp only[List.lookup,hb,HI (h\hk)]
     . have hb:(g==k)=false:=beq_eq_false_iff_ne.mpr h;simp only[List.lookup,hb,Gu (λe:g=f=>h (e\hk.symm))]
   . rw[Gu hk];by_cases h:g=k
     . have hb:(g==k)=true:=beq_iff_eq.mpr h;simp only[List.lookup,hb,Gu (λe:g=f=>hk (h.symm\e))]
     . have hb:(g==k)=false:=beq_eq_false_iff_ne.mpr h;simp only[List.lookup,hb];exact ih
def nt (f:Str) (v:V):∀fs:List (Str×V),f∈(c8 f v fs).map (·.1)/\∀g,g∈fs.map (·.1)->g∈(c8 f v fs).map (·.1)
 | []=>#[by simp [c8],λg h=>by simp at h]
 | (k,x)::r=>by
   let#[i1,i2]:=nt f v r;rw[show c8 f v ((k,x)::r)=(if k=f then(k,v)::r else(k,x)::c8 f v r) from rfl];by_cases hk:k=f
   . rw[HI hk];subst hk;show#[by simp,λg h=>by simpa using h]
   . rw[Gu hk];show#[?_,λg h=>?_]
     . rw[Hn];exact Gz _ i1
     . rw[Hn] at h ⊢;rcases HM.mp h with e|e
       . exact HM.mpr (.inl e)
       . exact Gz _ (i2 g e)
def iw (f:Str) (v:V):∀fs:List (Str×V),(c8 f v fs).length<=fs.length+1
 | []=>by simp [c8]
 | (k,x)::r=>by
   have ih:=iw f v r;rw[show c8 f v ((k,x)::r)=(if k=f then(k,v)::r else(k,x)::c8 f v r) from rfl];by_cases hk:k=f
   . rw[HI hk,Hs,Hs]; lia
   . rw[Gu hk,Hs,Hs]; lia
def dI.some_of {o:Kd Ke} (r:dI ⇑v o):∃u,o=⇑u/\ag v u:=by
 cases o with
 | none=>exact(show False from r).elim
 | some u=>show#[u,rfl,r]
def dI.none_of {o:Kd Ke} (r:dI none o):o=none:=by
 cases o with
 | none=>rfl
 | some u=>exact(show False from r).elim
def FG (r:ag v u):PySem.W.handedIn u=true:=by
 cases v with
 | non=>cases (show u=Value.none from r); rfl
 | bl b=>cases (show u=Value.bool b from r); rfl
 | int i=>let#[t,e]:=(show ∃t,u=Value.int i t from r); cases e; rfl
 | str x=>let#[t,e]:=(show ∃t,u=Value.str x t from r); cases e; rfl
 | byt b=>let#[t,e]:=(show ∃t,u=Value.bytes b t from r); cases e; rfl
 | flt b=>let#[t,e]:=(show ∃t,u=Value.float b t from r); cases e; rfl
 | ref a=>cases (show u=Value.ref a from r); rfl
 | ty n=>cases (show u=Value.type n from r); rfl
section
variable {P:Program} {w:World} {H H':Hp} {h h':Heap} {a C dx:Kg} {fs fs':List (Str×V)}
def lD (hok:cB P w H h) (e:H a=⇑(.ins C dx fs)):∃mA,ObjM h a dx C mA/\(∀f,dI (fs.lookup f) (mA f))/\PySem.Within mA (fs.map (·.1))/\fs.length<=1000/\H dx=⇑(.own a):=by
 let#[d,z,ne,ob,mA,n,r,q]:=(show cE P w H h a (.ins C dx fs) from hok a _ e)
 show#[mA,#[ob,n,ne],r,q,z,d]
end
structure Cls (K:W.Frag) (C:Addr):Prop where
 pg:PySem.W.plainGet K C Str.empty=true
 hd:PySem.W.hasDictIn K C=true
 po:PySem.W.plainOver K C=true
 sa:PySem.W.findIn K ↥C "__setattr__"=⇑⇑(.builtin "object.__setattr__")
def Cls.get {K:Kh} {C:Kg} (c:Cls K C) (f:Str):PySem.W.plainGet K C f=true:=c.pg
abbrev cj (K:Kh) (C:Kg) (f:Str):Prop:=PySem.W.findIn K ↥C f=⇑none
def cj.taker {f:Str} (n:cj K C f):PySem.W.takerIn K C f=⇑none:=by unfold PySem.W.takerIn;rw[show PySem.W.findIn K ↥C f=⇑none from n];rfl
structure Meth (K:W.Frag) (C:Addr) (m:Str) (f:Addr):Prop where
 at_:PySem.W.findIn K ↥C m=⇑⇑↥f
 fn:PySem.W.isFn K ↥f=true
 kp:PySem.W.keepIn K ↥f=true
section
variable {X:Cx} {pins:List (Kg×Obj)} {σ:St} {H:Hp} {s:Kf} {a C dx:Kg} {fs:List (Str×V)} {f:Str} {v:V} {A:Around} {E:Ke->Kf->Prop}
def qh {b:Bool} {Q:Ke->Kf->Prop} (I:Inv X pins σ H s) (e:H a=⇑(.ins C dx fs)) (c:Cls X.K C) (n:cj X.K C f) (l:fs.lookup f=⇑v)
   (h:∀u s',Inv X pins σ H s'->ag v u->Q u s'):wpAny 0x8 A (getAttr ↥a f b) Q E s:=by
 let#[mA,O,r,_,_,_]:=lD I.hok e;let#[u,hu,ru]:=dI.some_of (v:=v) (o:=mA f) (by rw[<- l]; exact r f);exact A9 I.kIn O (c.get f) c.hd n hu (FG ru) (h u _ (I.tok _) ru)
def tI {m:Str} {g:Kg} {Q:Ke×List Ke->Kf->Prop} (I:Inv X pins σ H s) (e:H a=⇑(.ins C dx fs)) (c:Cls X.K C) (k:Meth X.K C m g) (l:fs.lookup m=none)
   (h:Q (↥g,[↥a]) s):wpAny 0x8 A (getMethod ↥a m pl) Q E s:=by
 let#[mA,O,r,_,_,_]:=lD I.hok e;have hn:mA m=none:=dI.none_of (by rw[<- l]; exact r m);exact AQ I.kIn O (c.get m) k.at_ k.fn hn h
def sZ {y:V} {Q:Unit->Kf->Prop} (I:Inv X pins σ H s) (e:H a=⇑(.ins C dx fs)) (c:Cls X.K C) (n:cj X.K C f) (hl:fs.length<1000) (ry:ag y u)
   (h:∀s',Inv X pins σ (upd H a (.ins C dx (c8 f y fs))) s'->Q () s'):wpAny 0x8 A (setAttr ↥a f u) Q E s:=by
 let#[mA,O,r,wi,_,ho]:=lD I.hok e;have hz:(fs.map (·.1)).length<=sizeLine:=by rw[Go,sizeLine_eq]; lia
 refine Cp I.kIn O c.sa c.po n.taker c.hd wi hz λh' O' sb=>h _ ?_;have hd:∃o,h'.get? dx=⇑o:=by let#[o,_,_,e',_]:=O'.ns; show#[o,e']
 refine I.write (x:=a) (e:=dx) (by rw[e]; exact True.intro) (.inr ho) (λb q hb z=>(sb.2 b hb)\z) hd ?_;show#[by rw[aJ O.ne]; exact ho,?_,O.ne,O'.obj,_,O'.ns,λg=>?_,λg hg=>?_]
 . have:=iw f y fs; lia
 . show dI ((c8 f y fs).lookup g) (if g=f then ⇑u else mA g);rw[cA];by_cases q:g=f
   . rw[HI q,HI q]; exact ry
   . rw[Gu q,Gu q]; exact r g
 . by_cases q:g=f
   . rw[q]; exact(nt f y fs).1
   . refine(nt f y fs).2 g (wi g λz=>hg ?_);show(if g=f then ⇑u else mA g)=none;rw[Gu q]; exact z
def Inv.made (I:Inv X pins σ H s):Inv X pins σ (upd (upd H s.heap.objs.size (.own (s.heap.objs.size+1))) (s.heap.objs.size+1) (.ins C s.heap.objs.size []))
   { s with heap:=(s.heap.push PySem.W.emptyDict).push (PySem.W.instObj C s.heap.objs.size) }:=by
 have e1:(s.heap.push PySem.W.emptyDict).get? s.heap.objs.size=⇑PySem.W.emptyDict:=HR s.heap rfl;have e2:((s.heap.push PySem.W.emptyDict).push (PySem.W.instObj C s.heap.objs.size)).get? (s.heap.objs.size+1)=⇑(PySem.W.instObj C s.heap.objs.size):=by have:=HR (s.heap.push PySem.W.emptyDict) (o:=PySem.W.instObj C s.heap.objs.size) rfl;rwa [IM] at this
 have e3:(s.heap.push PySem.W.emptyDict).Ns s.heap.objs.size (λ_=>none):=#[PySem.W.emptyDict,(List.toArray []),_,e1,rfl,(λe he=>absurd he 0xA),λ_=>rfl]
 have I1:=I.laid (a:=s.heap.objs.size) (o:=.own (s.heap.objs.size+1)) (h':=s.heap.push PySem.W.emptyDict) (t':=s.toks) (λb u q=>Gr _ q) (Gw _) #[_,e1];refine I1.laid (a:=s.heap.objs.size+1) (o:=.ins C s.heap.objs.size []) (t':=s.toks) (λb u q=>Gr _ q) (Nat.le_of_eq (IM _ _)) ?_;have ne:s.heap.objs.size≠s.heap.objs.size+1:=Hu (Iw _);show#[by rw[aJ ne,aI],Hj _,ne,e2,λ_=>none,(Heap.Ns1.of_empty e3).at λo q=>Gr _ q,λ_=>True.intro,λy hy=>absurd rfl hy]
def Ek {prog:Program} {env:Env} {e:Expr} {f:Str} {Q:Ke->Kf->Prop} (hb:attributeBase e f env (eval e env)=eval e env)
   (h:wpAny (model prog w) A (eval e env) (λo s₁=>wpAny (model prog w) A (getAttr o f true) Q E s₁) E s):wpAny (model prog w) A (eval (.Attribute e f pos) env) Q E s :=
 Attribute_any_ h (by rw[arm_eval_Attribute,hb])
end
abbrev GD (K:Kh) (ta:TE) (f:Str):TE:=λσ H Q=>ta σ H λx H1=>∃a C dx fs v,x=↥a/\H1 a=⇑(.ins C dx fs)/\Cls K C/\cj K C f/\fs.lookup f=⇑v/\Q v H1
abbrev Fc (K:Kh) (ta tv:TE) (f:Str):TS:=λD σ H=>tv σ H λy H1=>ta σ H1 λx H2=>∃a C dx fs,x=↥a/\H2 a=⇑(.ins C dx fs)/\Cls K C/\cj K C f/\fs.length<1000 /\
 D.nx σ (upd H2 a (.ins C dx (c8 f y fs)))
abbrev yN (X:Cx) (op:Operator) (rd:V->V->Hp->VK->Prop):Prop :=
 ∀(pins:List (Kg×Obj)) (s:Kf) (σ:St) (H:Hp) (x y:V) (u v:Ke) (Q:VK),Inv X pins σ H s->ag x u->ag y v->rd x y H Q->wpAny 0x8 X.A (inplaceOp op u v) (EP X pins σ Q) X.xe s
abbrev Bc (K:Kh) (ta tv:TE) (rd:V->V->Hp->VK->Prop) (f:Str):TS:=λD σ H=>ta σ H λx H1=>∃a C dx fs v,x=↥a/\H1 a=⇑(.ins C dx fs)/\Cls K C/\cj K C f/\fs.lookup f=⇑v /\
 tv σ H1 λy H2=>rd v y H2 λz H3=>∃dx' fs',H3 a=⇑(.ins C dx' fs')/\fs'.length<1000/\D.nx σ (upd H3 a (.ins C dx' (c8 f z fs')))
section
variable {X:Cx} {o e value:Expr} {f:Str} {pos pos' tpos:Pos} {ta tv:TE}
def bS (he:PE X e ta) (hb:attributeBase e f X.env (eval e X.env)=eval e X.env):PE X (.Attribute e f pos) (GD X.K ta f):=by intro pins s σ H Q I h;refine Ek hb (aW (he pins s σ H _ I h) λu s1 z60_=>?_);let#[x,H1,I1,rx,a,C,dx,fs,v,ex,ea,c,n,l,q]:=z60_;subst ex;obtain rfl:u=Value.ref a:=rx;exact qh I1 ea c n l λu' s2 I2 ru=>#[v,H1,I2,ru,q]
def dJ (ha:PE X o ta) (hv:PE X value tv) (hs:swapsWith value ⇑(.Attribute o f pos') pos.line X.env=pure false):PS X (.Assign [.Attribute o f pos'] value pos) (Fc X.K ta tv f):=by intro pins s σ H D I h;refine plainObj_wpAny_Assign_Attribute (aW (hv pins s σ H _ I h) λu s1 z62_=>z62_.e λy H1 I1 ry q=>aW (ha pins s1 σ H1 _ I1 q) λov s2 z63_=>?_) hs;let#[x,H2,I2,rx,a,C,dx,fs,ex,ea,c,n,l,q2]:=z63_;subst ex;obtain rfl:ov=Value.ref a:=rx;exact sZ I2 ea c n l ry λs3 I3=>#[σ,_,I3,q2]
def C' {op:Operator} {rd:V->V->Hp->VK->Prop} (ha:PE X o ta) (hv:PE X value tv) (hop:yN X op rd):PS X (.AugAssign (.Attribute o f tpos) op value pos) (Bc X.K ta tv rd f):=by intro pins s σ H D I h;refine wpAny_AugAssign_AttributeAny (aW (ha pins s σ H _ I h) λov s1 z64_=>?_);let#[x,H1,I1,rx,a,C,dx,fs,v,ex,ea,c,n,l,q]:=z64_;subst ex;obtain rfl:ov=Value.ref a:=rx;refine qh I1 ea c n l λu s2 I2 ru=>aW (hv pins s2 σ H1 _ I2 q) λw3 s3 z65_=>z65_.e λy H2 I3 ry q3=>aW (hop pins s3 σ H2 v y u w3 _ I3 ru ry q3) λw4 s4 z66_=>?_;let#[z,H3,I4,rz,dx',fs',ea',l',q4]:=z66_;exact sZ I4 ea' c n l' rz λs5 I5=>#[σ,_,I5,q4]
end
section
variable {X:Cx} {pins:List (Kg×Obj)} {σ:St} {H:Hp} {s:Kf} {A:Around} {E:Ke->Kf->Prop} {Q:Ke->Kf->Prop} {c:Ke} {b:Bool}
inductive TyOf (K:W.Frag) (H:Hp):V->Value->Prop where
 | non:TyOf K H .non (.type "NoneType")
 | bl (x:Bool):TyOf K H (.bl x) (.type "bool")
 | int (i:Int):TyOf K H (.int i) (.type "int")
 | str (x:Str):TyOf K H (.str x) (.type "str")
 | flt (x:UInt64):TyOf K H (.flt x) (.type "float")
 | lst {a:Addr} {xs:List V} (e:H a=⇑(.lst xs)):TyOf K H ↥a (.type "list")
 | frz {a:Addr} {o:Obj} {xs:List V} (e:H a=⇑(.frz o (.lst xs))):TyOf K H ↥a (.type "list")
 | tup {a:Addr} {xs:List V} (e:H a=⇑(.tup xs)):TyOf K H ↥a (.type "tuple")
 | dK {a:Addr} {kvs:List (aE×V)} (e:H a=⇑(.dK kvs)):TyOf K H ↥a (.type "dict")
 | dT {a:Addr} {kvs:List (List aE×V)} (e:H a=⇑(.dT kvs)):TyOf K H ↥a (.type "dict")
 | ins {a C dx:Addr} {fs:List (Str×V)} (e:H a=⇑(.ins C dx fs)) (cl:Cls K C) (ha:PySem.W.findIn K ↥C "__class__"=⇑⇑(.builtin "object.__class__"))
     (hn:PySem.W.specialIn K (.builtin "object.__class__") "__get__"=⇑⇑(.builtin "getset_descriptor.__get__")) (htk:PySem.W.takesIn K (.builtin "object.__class__")=⇑true)
     (hm:PySem.W.mroIn K C (.type "object")=⇑true):TyOf K H ↥a ↥C
def CM {x:V} {t:Ke}(I:Inv X pins σ H s) (rx:ag x u) (ty:TyOf X.K H x t) (e:PySem.W.kitOne X.K t c=⇑b) (h:∀tk,Q (.bool b) { s with toks:=tk }) :
   wpAny 0x8 A (call (.builtin "isinstance") [u,c]) Q E s:=by
 cases ty with
 | non=>cases (show u=Value.none from rx); exact PySem.W.kia_one PySem.W.kitx_none I.kIn True.intro e (λz=>nomatch z) h
 | bl y=>cases (show u=Value.bool y from rx); exact PySem.W.kia_one PySem.W.kitx_bool I.kIn True.intro e (λz=>nomatch z) h
 | int i=>let#[t,q]:=(show ∃t,u=Value.int i t from rx); cases q; exact PySem.W.kia_one PySem.W.kitx_int I.kIn True.intro e (λz=>nomatch z) h
 | str y=>let#[t,q]:=(show ∃t,u=Value.str y t from rx); cases q; exact PySem.W.kia_one PySem.W.kitx_str I.kIn True.intro e (λz=>nomatch z) h
 | flt y=>let#[t,q]:=(show ∃t,u=Value.float y t from rx); cases q; exact PySem.W.kia_one PySem.W.kitx_float I.kIn True.intro e (λz=>nomatch z) h
 | @lst a xs ea =>
   cases (show u=Value.ref a from rx);let#[_,_,n,_,h1]:=(show cE X.prog X.w H s.heap a (.lst xs) from I.hok a _ ea)
   exact PySem.W.kia_one PySem.W.kitx_list I.kIn #[_,h1,rfl] e (λz=>nomatch z) h
 | @frz a ob xs ea =>
   cases (show u=Value.ref a from rx);let#[_,_,_,n,_,h1]:=(show cE X.prog X.w H s.heap a (.frz ob (.lst xs)) from I.hok a _ ea)
   exact PySem.W.kia_one PySem.W.kitx_list I.kIn #[_,h1,rfl] e (λz=>nomatch z) h
 | @tup a xs ea =>
   cases (show u=Value.ref a from rx);let#[_,_,_,p]:=(show cE X.prog X.w H s.heap a (.tup xs) from I.hok a _ ea)
   let#[o,h1,h2,_]:=p;exact PySem.W.kia_one PySem.W.kitx_tuple I.kIn #[o,h1,h2] e (λz=>nomatch z) h
 | @dK a kvs ea =>
   cases (show u=Value.ref a from rx);let#[_,_,vs,_,p]:=(show cE X.prog X.w H s.heap a (.dK kvs) from I.hok a _ ea)
   let#[o,es,ep,h1,h2,_]:=p;exact PySem.W.kia_one PySem.W.kitx_dict I.kIn #[o,h1,h2.1] e (λz=>nomatch z) h
 | @dT a kvs ea =>
   cases (show u=Value.ref a from rx);let#[_,_,xs,_,o,es,ep,h1,h2,_]:=(show cE X.prog X.w H s.heap a (.dT kvs) from I.hok a _ ea)
   exact PySem.W.kia_one PySem.W.kitx_dict I.kIn #[o,h1,h2.1] e (λz=>nomatch z) h
 | @ins a C dx fs ea cl ha hn htk hm =>
   cases (show u=Value.ref a from rx);let#[mA,O,_]:=lD I.hok ea;let#[od,J,_]:=O.look;exact PySem.W.kia_one (PySem.W.kitx_own (cl.get _) cl.hd ha hn htk hm) I.kIn J e (λz=>nomatch z) h
end
structure Room (k:Nat) (A:Around):Prop where
 hd:A.handled=none
 dp:A.depth+3 * k+5<recursionLimit
 un:A.units+16 * k+200<cLine
def Room.mono {j k:Nat} (r:Room k A) (h:j<=k):Room j A:=#[r.hd,by have:=r.dp; lia,by have:=r.un; lia]
def Room.deeper {k:Nat} (r:Room (k+1) A) (env:Env):Room k (A.deeper env) :=
 #[r.hd,by have:=r.dp; show A.depth+1+3 * k+5<_; lia,by have:=r.un; show A.units+3+16 * k+200<_; lia]
def Bk {kw:List (Str×Ke)}:(A.under (.builtin "type.__call__" #[↥C::us,kw])).depth=A.depth+1:=by
 first|rfl|simp [Around.under,Code.weight,Code.isCreation,Code.isGuard,Code.isCaller,Code.frames,Code.isFrame,guardIds]
def FQ {kw:List (Str×Ke)}:(A.under (.builtin "type.__call__" #[↥C::us,kw])).units=A.units+1:=by
 first|rfl|simp [Around.under,Code.cUnits,Code.frames,Code.isFrame]
def Room.make {k:Nat} (r:Room (k+1) A) (C:Kg) (us:List Ke) (kw:List (Str×Ke)):Room k (A.under (.builtin "type.__call__" #[↥C::us,kw])) :=
 #[r.hd,by have:=r.dp; rw[Bk]; lia,by have:=r.un; rw[FQ]; lia]
def Room.depth {k:Nat} (r:Room k A):A.depth<recursionLimit:=by have:=r.dp; lia
def Room.units {k:Nat} (r:Room k A):A.units+64<cLine:=by have:=r.un; lia
abbrev pY:TA:=λ_ H Q=>Q [] H
abbrev rR (ta:TE) (tr:TA):TA:=λσ H Q=>ta σ H λx H1=>tr σ H1 λxs H2=>Q (x::xs) H2
section
variable {X:Cx} {e:Expr} {es:List Expr} {te:TE} {t:TA} {pos:Pos}
def aH:PA X [] pY:=λ_ _ _ _ H Q I h=>Calls.spliced_nil #[[],H,I,.nil,h]
def af (ha:PE X e te) (hr:PA X es t) (hs:starEach (e::es) X.env=(false,eval e X.env)::starEach es X.env:=by rfl):PA X (e::es) (rR te t):=by intro pos pins s σ H Q I h;rw[hs];show wpAny _ _ (spliced ((false,eval e X.env)::backTo pos (starEach es X.env))) _ _ s;refine Calls.spliced_cons (aW (ha pins s σ H _ I h) λu s1 z68_=>?_);let#[x,H1,I1,r1,q1]:=z68_;exact aW (hr pos pins s1 σ H1 _ I1 q1) λus s2 z69_=>by let#[xs,H2,I2,r2,q2]:=z69_; show#[x::xs,H2,I2,.cons r1 r2,q2]
def aD {e:Expr} {es:List Expr} {te:TE} {t:TA} (ha:PE X e te) (hr:PA X es t) (hs:starEach (e::es) X.env=(false,eval e X.env)::starEach es X.env):PA X (e::es) (rR te t):=af ha hr hs
abbrev zy (t:TA):TE:=λσ H Q=>t σ H λxs H1=>xs.length<=sizeLine/\∀p,H1 p=none->Q ↥p (upd H1 p (.tup xs))
abbrev uh (t:TA):TE:=λσ H Q=>t σ H λxs H1=>xs.length<=sizeLine/\∀p,H1 p=none->Q ↥p (upd H1 p (.lst xs))
def bQ {x1} (h:PA X es t):PE X (.Tuple es x1 pos) (zy t):=by intro pins s σ H Q I hq;refine wpAny_Tuple_spliced (aW (h pos pins s σ H _ I hq) λus s1 ⟨xs,H1,I1,r,z,q⟩=>#[by rw[<- r.length]; exact z,?_]);have hf:H1 s1.heap.objs.size=none:=I1.hok.fresh (Gw _);show#[↥s1.heap.objs.size,upd H1 s1.heap.objs.size (.tup xs),I1.laid (t':=s1.toks) (λb u e=>Gr _ e) (Gw _) ?_,rfl,q _ hf];show#[z,us,r,#[_,HR _ rfl,13]]
def bI (h:PA X es t):PE X (.List es pos) (uh t):=by intro pins s σ H Q I hq;refine wpAny_List_spliced (aW (h pos pins s σ H _ I hq) λus s1 ⟨xs,H1,I1,r,z,q⟩=>#[by rw[<- r.length]; exact z,?_]);have hf:H1 s1.heap.objs.size=none:=I1.hok.fresh (Gw _);show#[↥s1.heap.objs.size,upd H1 s1.heap.objs.size (.lst xs),I1.laid (t':=s1.toks) (λb u e=>Gr _ e) (Gw _) ?_,rfl,q _ hf];show#[z,us,(0),r,HR _ rfl]
end
noncomputable abbrev Sp:=List V->Hp->VK->XK->Prop
noncomputable abbrev eN:=List Env->Hp->Kf->XK->Ke->Kf->Prop
structure Env0 (P:Program) (w:World) (K:W.Frag) (mg:Str->Option Value) (base:Heap) (A:Around) (outer:List Env) (s:Shared) (H:Hp):Prop where
 frames:A.frames=⇑outer
 mod:Mod K mg base
 bs:∀b o,base.get? b=⇑o->s.heap.get? b=⇑o/\H b=none
 bsz:base.objs.size<=s.heap.objs.size
 funs:s.heap.FunFrames base outer
 frf:∀b∈eT outer,H b=none
 hok:cB P w H s.heap
 bare:AllBare s.gens
abbrev CE (outer:List Env) (P:Program) (w:World) (H:Hp) (s:Kf) (Q:VK) (u:Ke) (s':Kf):Prop :=
 ∃v H',s'.os=s.os/\AllBare s'.gens/\Un (eT outer) [] H H' s.heap s'.heap/\cB P w H' s'.heap/\ag v u/\Q v H'
abbrev CR (CX:eN) (outer:List Env) (P:Program) (w:World) (H:Hp) (s:Kf) (Q:VK) (E:XK) (r:Result) (s':Kf):Prop :=
 match r with
 | .ok (.ret u)=>CE outer P w H s Q u s'
 | .ok _=>False
 | .error e=>CX outer H s E e s'
structure FnOk (P:Program) (w:World) (K:W.Frag) (mg:Str->Option Value) (base:Heap) (CX:eN) (k:Nat) (f:Addr) (fd:FuncData) (ps:List Str) (sp:Sp):Prop where
 len:∀vs H Q E,sp vs H Q E->vs.length=ps.length
 run:∀(A:Around) (outer:List Env) (s:Shared) (H:Hp) (args:Args) (us:List Value) (vs:List V) (Q:VK) (E:XK),Room k A->Env0 P w K mg base A outer s H->BindsTo s fd args (ps.zip us)->ae vs us->sp vs H Q E ->
   codeAny (model P w) A (.call ↥f args) (CR CX outer P w H s Q E) s
variable {base:Heap}
def Env0.make {mg:Str->Kd Ke} {outer:List Env} (e:Env0 P w K mg base A outer s H) (C:Kg) (us:List Ke) (kw:List (Str×Ke)) :
   Env0 P w K mg base (A.under (.builtin "type.__call__" #[↥C::us,kw])) outer s H:=#[by first|exact e.frames|(simpa [Around.under,Code.envs,Code.isFrame,pushEnvs] using e.frames),e.mod,e.bs,e.bsz,e.funs,e.frf,e.hok,e.bare]
section
variable {X:Cx} {pins:List (Kg×Obj)} {σ:St} {H:Hp} {s s':Kf}
def Inv.env0 (I:Inv X pins σ H s):Env0 X.prog X.w X.K X.mg X.base X.A X.stack s H :=
 #[I.ok.frames,I.ok.mod,I.bs,Hf I.ok.bsz I.sz,I.stack,I.stkFree,I.hok,I.bare]
def Inv.after {Q:VK} (I:Inv X pins σ H s) (h:CE X.stack X.prog X.w H s Q u s'):EP X pins σ Q u s':=by let#[v,H',os,bare,un,hok,r,q]:=h;let#[hh,g,d,t,os']:=s';obtain rfl:os'=s.os:=os;show#[v,H',I.call (h':=hh) (g':=g) (d':=d) (t':=t) (ch:=[]) un hok bare (λb z=>absurd z 0xA),r,q]
end
abbrev oC (sp:Sp) (dvs:List V) (E:XK) (t:TA):TE:=λσ H Q=>t σ H λvs H1=>sp (vs++dvs) H1 Q E
abbrev qK (C:Kg) (m:Str) (sp:Sp) (dvs:List V) (E:XK) (ta:TE) (t:TA):TE:=λσ H Q=>ta σ H λx H1=>∃a dx fs,x=↥a/\H1 a=⇑(.ins C dx fs)/\fs.lookup m=none /\
 t σ H1 λvs H2=>sp (x::(vs++dvs)) H2 Q E
abbrev qM (C:Kg) (sp:Sp) (dvs:List V) (E:XK) (t:TA):TE:=λσ H Q=>t σ H λvs H1=>∀x dx,H1 x=none->H1 dx=none->dx≠x ->
 sp (↥x::(vs++dvs)) (upd (upd H1 dx (.own x)) x (.ins C dx [])) (λv H2=>v=.non/\Q ↥x H2) E
abbrev dk (K:Kh) (fd:FuncData) (ps:List Str) (ds:List Ke):Prop :=
 ∀(s:Kf) (us:List Ke),K.In s.heap->(us++ds).length=ps.length->BindsTo s fd #[us,[]] (ps.zip (us++ds))
def dk.all {fd:FuncData} {ps:List Str} (h:∀us:List Ke,us.length=ps.length->bindArgs fd #[us,[]]=pure (ps.zip us)):dk K fd ps []:=λs us _ hl=>by rw[Ig] at hl ⊢;exact .of_eq (h us hl)
abbrev gG (CX:eN) (X:Cx) (E:XK):Prop:=∀(pins:List (Kg×Obj)) (σ:St) (H:Hp) (s:Kf) (e:Ke) (s':Kf),Inv X pins σ H s->CX X.stack H s E e s'->X.xe e s'
section
variable {X:Cx} {CX:eN} {k:Nat} {f C:Kg} {fd:FuncData} {ps:List Str} {sp:Sp} {dvs:List V} {ds:List Ke} {E:XK} {x m:Str} {p pos apos:Pos} {e o:Expr} {es:List Expr} {ta:TE} {t:TA}
def mB {Q:VK} {vs:List V} (F:FnOk X.prog X.w X.K X.mg X.base CX k f fd ps sp) (hr:Room k X.A) (hb:dk X.K fd ps ds) (hd:ae dvs ds) (hx:gG CX X E)
   (I:Inv X pins σ H s) (r:ae vs us) (h:sp (vs++dvs) H Q E):wpAny 0x8 X.A (call ↥f us) (EP X pins σ Q) X.xe s:=by
 have r2:ae (vs++dvs) (us++ds):=r.append hd;have hl:(us++ds).length=ps.length:=by rw[<- r2.length]; exact F.len _ _ _ _ h
 refine wpAny_call (KO (F.run X.A X.stack s H #[us,[]] (us++ds) (vs++dvs) Q E hr I.env0 (hb s us I.kIn hl) r2 h) λr s' hq=>?_);cases r with
 | error e=>exact hx pins σ H s e s' I hq
 | ok fl =>
   cases fl with
   | ret u=>exact I.after hq
   | next=>exact False.elim hq
   | brk=>exact False.elim hq
   | cont=>exact False.elim hq
def Ax (F:FnOk X.prog X.w X.K X.mg X.base CX k f fd ps sp) (hr:Room k X.A) (hg:Gl X x) (hm:X.mg x=⇑↥f) (hk:PySem.W.keepIn X.K ↥f=true) (hb:dk X.K fd ps ds) (hd:ae dvs ds) (hx:gG CX X E)
   (ha:PA X (e::es) t) (hdb:(x==("__debug__":Str))=false:=by decide) (he:starEach (e::es) X.env=(false,eval e X.env)::starEach es X.env:=by rfl) (hpl:(backTo pos (starEach es X.env)).any (·.1)=false:=by rfl) :
   PE X (.Call (.Name x p) (e::es) [] pos) (oC sp dvs E t):=by
 intro pins s σ H Q I h;refine JJ (nZ I hg hm ?_ hdb);refine PySem.W.callWith_K (h₀:=X.base) I.ok.mod.kin hk (aW (ha pos pins s σ H _ I h) λus s1 z72_=>z72_.e λvs H1 I1 r q=>#[I1.kIn,?_]) he hpl;exact mB F hr hb hd hx I1 r q
def bt (he:PE X o ta) (c:Cls X.K C) (hm:Meth X.K C m f) (F:FnOk X.prog X.w X.K X.mg X.base CX k f fd ps sp) (hr:Room k X.A) (hb:dk X.K fd ps ds) (hd:ae dvs ds) (hx:gG CX X E) (ha:PA X (e::es) t)
   (hst:starEach (e::es) X.env=(false,eval e X.env)::starEach es X.env:=by rfl) (hpl:(backTo pos (starEach es X.env)).any (·.1)=false:=by rfl)
   (ht:eval (.Call (.Attribute o m apos) (e::es) [] pos) X.env=(do
     let ov <- eval o X.env
     standAt apos.atName
     let (f,first) <- holding [ov] (getMethod ov m pl)
     callWith pos f first (backTo pos (starEach (e::es) X.env)) (backToKw pos (keywordEach [] X.env))):=by rfl) :
   PE X (.Call (.Attribute o m apos) (e::es) [] pos) (qK C m sp dvs E ta t):=by
 intro pins s σ H Q I h;refine PySem.W.methodCall_KW (pl:=pl) (aW (he pins s σ H _ I h) λu s1 z73_=>?_) ht;let#[x,H1,I1,rx,a,dx,fs,ex,ea,l,q]:=z73_;subst ex;obtain rfl:u=Value.ref a:=rx;refine tI I1 ea c hm l ?_;refine PySem.W.callWith_K (first:=[↥a]) (h₀:=X.base) I.ok.mod.kin hm.kp (aW (ha pos pins s1 σ H1 _ I1 q) λus s2 z74_=>z74_.e λvs H2 I2 r q2=>#[I2.kIn,?_]) hst hpl;exact mB (us:=↥a::us) (vs:=↥a::vs) F hr hb hd hx I2 (.cons rfl r) q2
def dn (he:PE X o ta) (c:Cls X.K C) (hm:Meth X.K C m f) (F:FnOk X.prog X.w X.K X.mg X.base CX k f fd ps sp) (hr:Room k X.A) (hb:dk X.K fd ps ds) (hd:ae dvs ds) (hx:gG CX X E)
   (ht:eval (.Call (.Attribute o m apos) [] [] pos) X.env=(do
     let ov <- eval o X.env
     standAt apos.atName
     let (f,first) <- holding [ov] (getMethod ov m pl)
     callWith pos f first (backTo pos (starEach [] X.env)) (backToKw pos (keywordEach [] X.env))):=by rfl) :
   PE X (.Call (.Attribute o m apos) [] [] pos) (qK C m sp dvs E ta pY):=by
 intro pins s σ H Q I h;refine PySem.W.methodCall_KW (pl:=pl) (aW (he pins s σ H _ I h) λu s1 z75_=>?_) ht;let#[x,H1,I1,rx,a,dx,fs,ex,ea,l,q]:=z75_;subst ex;obtain rfl:u=Value.ref a:=rx;refine tI I1 ea c hm l ?_;exact PySem.W.callWith_K0 (first:=[↥a]) I1.kIn hm.kp (mB (us:=[↥a]) (vs:=[↥a]) F hr hb hd hx I1 (.cons rfl .nil) q)
structure Mk (K:W.Frag) (C f:Addr):Prop where
 makes:PySem.W.makesIn K C=true
 init:PySem.W.findIn K ↥C "__init__"=⇑⇑↥f
 fn:PySem.W.isFn K ↥f=true
 kp:PySem.W.keepIn K ↥C=true
def Em {Q:VK} {vs:List V} (M:Mk X.K C f) (F:FnOk X.prog X.w X.K X.mg X.base CX k f fd ps sp) (hr:Room (k+1) X.A) (hb:dk X.K fd ps ds) (hd:ae dvs ds)
   (hx:gG CX X E) (I:Inv X pins σ H s) (r:ae vs us)
   (h:∀x dx,H x=none->H dx=none->dx≠x->sp (↥x::(vs++dvs)) (upd (upd H dx (.own x)) x (.ins C dx [])) (λv H2=>v=.non/\Q ↥x H2) E) :
   wpAny 0x8 X.A (call ↥C us) (EP X pins σ Q) X.xe s:=by
 have hq:=h (s.heap.objs.size+1) s.heap.objs.size (I.hok.fresh (JF _)) (I.hok.fresh (Gw _)) (Hu (Iw _));have I2:=Inv.made (C:=C) I;have r2:ae (V.ref (s.heap.objs.size+1)::(vs++dvs)) (Value.ref (s.heap.objs.size+1)::(us++ds)):=.cons rfl (r.append hd);have hl:(Value.ref (s.heap.objs.size+1)::us++ds).length=ps.length:=by have e:=r2.length;rw[F.len _ _ _ _ hq] at e;exact e.symm
 refine wpAny_call (Ck (f:=f) I.kIn M.makes M.init (beq_iff_eq.mp M.fn) (KO (F.run _ X.stack _ _ #[Value.ref (s.heap.objs.size+1)::us,[]] (Value.ref (s.heap.objs.size+1)::(us++ds)) _ _ E (hr.make C us [])
   (I2.env0.make C us []) (hb _ (Value.ref (s.heap.objs.size+1)::us) I2.kIn hl) r2 hq) λr s' hq'=>?_))
 cases r with
 | error e=>exact hx pins σ _ _ e s' I2 hq'
 | ok fl =>
   cases fl with
   | ret u =>
     let#[v,H',I3,rv,ev,q3]:=I2.after hq';subst ev;show#[rv,#[V.ref (s.heap.objs.size+1),H',I3,rfl,q3]]
   | next=>exact False.elim hq'
   | brk=>exact False.elim hq'
   | cont=>exact False.elim hq'
def DC (M:Mk X.K C f) (F:FnOk X.prog X.w X.K X.mg X.base CX k f fd ps sp) (hr:Room (k+1) X.A) (hg:Gl X x) (hm:X.mg x=⇑↥C) (hb:dk X.K fd ps ds) (hd:ae dvs ds) (hx:gG CX X E)
   (ha:PA X (e::es) t) (hdb:(x==("__debug__":Str))=false:=by decide) (he:starEach (e::es) X.env=(false,eval e X.env)::starEach es X.env:=by rfl) (hpl:(backTo pos (starEach es X.env)).any (·.1)=false:=by rfl) :
   PE X (.Call (.Name x p) (e::es) [] pos) (qM C sp dvs E t):=by
 intro pins s σ H Q I h;refine JJ (nZ I hg hm ?_ hdb);refine PySem.W.callWith_K (h₀:=X.base) I.ok.mod.kin M.kp (aW (ha pos pins s σ H _ I h) λus s1 z76_=>z76_.e λvs H1 I1 r q=>#[I1.kIn,?_]) he hpl;exact Em M F hr hb hd hx I1 r q
end
structure FnScope (N P:List Str) (sc:Scope):Prop where
 kind:sc.kind=.function
 co:sc.isCoroutine=false
 gen:sc.isGenerator=false
 nd:N.Nodup
 pre:N.take P.length=P
 par:∀x∈P,sc.names.lookup x=some .local\/sc.names.lookup x=some .cell
 nofree:∀y∈sc.names,y.2≠.free
def qa {kindOf:Str->Kd NameKind} {x:Str}:∀{binds:List (Str×Ke)} {m:Str->Kd Ke},(∀v,(x,v) ∉ binds)->bindL kindOf binds m x=m x
 | [],_,_=>rfl
 | (n,v)::r,m,h=>by
   unfold bindL;rw[qa λw hw=>h w (Gz _ hw)];split
   . have:x≠n:=by rintro rfl; exact h v HH
     simp [this]
   . rfl
def uf {kindOf:Str->Kd NameKind} {x:Str}:∀{binds:List (Str×Ke)} {m:Str->Kd Ke},(∀v,(x,v) ∉ binds)->bindC kindOf binds m x=m x
 | [],_,_=>rfl
 | (n,v)::r,m,h=>by
   unfold bindC;rw[uf λw hw=>h w (Gz _ hw)];split
   . rfl
   . have:x≠n:=by rintro rfl; exact h v HH
     simp [this]
def sV {kindOf:Str->Kd NameKind} {x:Str} {v:Ke}:∀{P:List Str} {vs:List Ke} {i:Nat} {m:Str->Kd Ke},P.Nodup->P[i]?=⇑x->vs[i]?=⇑v->kindOf x=some .local ->
   bindL kindOf (P.zip vs) m x=⇑v
 | [],_,_,_,_,h,_,_=>by simp at h
 | _::_,[],_,_,_,_,h,_=>by simp at h
 | p::P,w::vs,0,m,nd,h1,h2,hk=>by simp at h1 h2; subst h1; subst h2;show bindL kindOf ((p,w)::P.zip vs) m p=_;unfold bindL;rw[qa λv hv=>(JG.mp nd).1 (JH hv).1,HI hk];simp
 | p::P,w::vs,i+1,m,nd,h1,h2,hk=>by show bindL kindOf ((p,w)::P.zip vs) m x=_;unfold bindL;exact sV (i:=i) (JG.mp nd).2 ↑h1 ↑h2 hk
def qR {kindOf:Str->Kd NameKind} {x:Str} {v:Ke}:∀{P:List Str} {vs:List Ke} {i:Nat} {m:Str->Kd Ke},P.Nodup->P[i]?=⇑x->vs[i]?=⇑v->kindOf x≠some .local ->
   bindC kindOf (P.zip vs) m x=⇑v
 | [],_,_,_,_,h,_,_=>by simp at h
 | _::_,[],_,_,_,_,h,_=>by simp at h
 | p::P,w::vs,0,m,nd,h1,h2,hk=>by simp at h1 h2; subst h1; subst h2;show bindC kindOf ((p,w)::P.zip vs) m p=_;unfold bindC;rw[uf λv hv=>(JG.mp nd).1 (JH hv).1,Gu hk];simp
 | p::P,w::vs,i+1,m,nd,h1,h2,hk=>by show bindC kindOf ((p,w)::P.zip vs) m x=_;unfold bindC;exact qR (i:=i) (JG.mp nd).2 ↑h1 ↑h2 hk
abbrev fJ (N:List Str) (vs:List V):St:=vs.map some++List.replicate (N.length - vs.length) none
abbrev j6 (CX:eN) (P:Program) (w:World) (K:Kh) (mg:Str->Kd Ke) (base:Heap) (N:List Str) (qual:Str) (scope:Scope) (f:Kg) (cd:Ke) (A:Around) (outer:List Env) (s:Kf) (H:Hp) (E:XK):Cx where
 prog:=P
 w:=w
 K:=K
 mg:=mg
 base:=base
 A:=A.deeper (envOfC qual scope s.heap.objs.size f cd)
 N:=N
 s₀:=s
 H₀:=H
 env:=envOfC qual scope s.heap.objs.size f cd
 outer:=outer
 stack:=envOfC qual scope s.heap.objs.size f cd::outer
 ex:=[]
 calm:=true
 fn:=λ_=>true
 pn:=[]
 xe:=λe s'=>wpAny (model P w) (A.deeper (envOfC qual scope s.heap.objs.size f cd)) (leaving (envOfC qual scope s.heap.objs.size f cd) e) (λ_ s''=>CX outer H s E e s'') (λe' s''=>CX outer H s E e' s'') s'
def pq {sc:Scope} {n:Nat} (h:sc.names.lookup x=some .cell):∃c,(cellsFrom n sc.names []).lookup x=⇑c:=by have q:=PySem.W.cellsFrom_some sc.names n [] (.inl h);exact JK.mp q
def zM {CX:eN} {mg:Str->Kd Ke} {N ps:List Str} {qual:Str} {scope:Scope} {f:Kg} {cd:Ke} {outer:List Env} {s1:Kf}{E:XK} {vs:List V}
   (S:FnScope N ps scope) (hd:A.handled=none) (e0:Env0 P w K mg base A outer s H) (hl:vs.length=ps.length) (r:ae vs us)
   (x:InCallC s s.heap.objs.size (bindL (envOfC qual scope s.heap.objs.size f cd).kindOf (ps.zip us) λ_=>none) (cellsFrom (s.heap.objs.size+1) scope.names []) (bindC (envOfC qual scope s.heap.objs.size f cd).kindOf (ps.zip us) λ_=>none) s1) :
   Inv (j6 CX P w K mg base N qual scope f cd A outer s H E) [] (fJ N vs) H s1:=by
 have hpl:ps.length<=N.length:=by have:=HY List.length S.pre; rw[Hl] at this; lia
 let#[h1,tk,rfl,hk]:=x.done;have noA:∀b:Kg,b ∉ (j6 CX P w K mg base N qual scope f cd A outer s H E).ex:=λb z=>absurd (show b∈([]:List Kg) from z) 0xA;show#[#[e0.mod,S.kind,7,Gw _,λy z c h1 h2=>?_,λy hy=>?_,λy c _ h=>?_,λ_=>hd,Around.frames_deeper e0.frames,.inr #[7],λb z=>absurd z (noA b),e0.bs,e0.bsz,λb _ _=>noA b,λb z=>absurd z (noA b),e0.funs,e0.frf],rfl,e0.bare,Un.kept hk,#[_,x.toInCall.ns,λi y v h1 h2 h3=>?_],λy c h=>#[_,x.cell y c h],e0.hok.fresh (Gw _),λy c h=>?_,λp hp=>absurd (show p∈([]:List (Kg×Obj)) from hp) 0xA,e0.hok.kept hk,?_]
 . exact name_of_addr x.apart (PySem.mem_of_lookup h1) (PySem.mem_of_lookup h2)
 . have hy:scope.names.lookup y=some .cell\/scope.names.lookup y=some .free:=hy;rcases hy with hy|hy
   . exact pq hy
   . exact absurd rfl (S.nofree _ (PySem.mem_of_lookup hy))
 . exact IE (x.above y c (PySem.mem_of_lookup h))
 . have hi:i<vs.length:=by
     unfold fJ at h2;by_cases hi:i<vs.length
     . exact hi
     . rw[II ↑hi] at h2;rw[List.getElem?_replicate] at h2;split at h2 <;> cases h2
   have ha:vs[i]?=⇑v:=by
     unfold fJ at h2;rw[IB ↑hi,HV] at h2;cases e:vs[i]? with
     | none=>rw[e] at h2; cases h2
     | some a=>rw[e] at h2; cases h2; rfl
   let#[u,hu,rv]:=r.get ha;have hp:ps[i]?=⇑y:=by rw[<- S.pre,JL ∅]; exact h1
   have ndP:ps.Nodup:=by rw[<- S.pre]; exact S.nd.sublist (List.take_sublist _ _)
   show#[u,rv,?_];rcases S.par y (He hp) with k|k
   . exact .inl #[k,sV ndP hp hu k]
   . let#[c,e]:=pq (n:=s.heap.objs.size+1) k;refine .inr #[.inl k,c,e,?_];have q:=x.cell y c e;rw[qR ndP hp hu (by show scope.names.lookup y≠_; rw[k]; decide)] at q;exact q
 . exact e0.hok.fresh (IE (x.above y c (PySem.mem_of_lookup h)))
 . unfold fJ;show _=N.length;rw[Gv,Go,IH]
   lia
def AX {CX:eN} {mg:Str->Kd Ke} {k:Nat} {f:Kg} {name qual:Str} {params:Arguments} {body:List Stmt} {scope:Scope} {dV kV doc pm cdv ct oc:Ke} {an od:Kd Kg}
   {osl:Array (Kd Ke)} {N ps:List Str} {sp:Sp} (lk:K.lookup f=⇑#[oc,od,.func (PySem.W.fnOf name qual params body scope dV kV doc pm an cdv ct),osl]) (hcd:PySem.W.codeIn K cdv qual=true) (S:FnScope N ps scope)
   (len:∀vs H Q E,sp vs H Q E->vs.length=ps.length)
   (hbody:∀(A:Around) (outer:List Env) (s:Kf) (H:Hp) (vs:List V) (Q:VK) (E:XK),Room k (A.deeper (envOfC qual scope s.heap.objs.size f cdv))->sp vs H Q E ->
     ∃t,aV (j6 CX P w K mg base N qual scope f cdv A outer s H E) body t/\t { nx:=λ_ H'=>Q .non H',rt:=Q } (fJ N vs) H) :
   FnOk P w K mg base CX (k+1) f (PySem.W.fnOf name qual params body scope dV kV doc pm an cdv ct) ps sp:=by
 show#[len,λA outer s H args us vs Q E hr e0 hb r hsp=>?_];have hl:=len _ _ _ _ hsp;have KX:K.In s.heap:=e0.mod.kin.keeps λb o e=>(e0.bs b o e).1;have lim:s.heap.NoLimit:=e0.mod.nolimit.keeps λb o e=>(e0.bs b o e).1;have hkind:∀y∈ps.zip us,scope.names.lookup y.1=some .local\/(scope.names.lookup y.1=some .cell/\((cellsFrom (s.heap.objs.size+1) scope.names []).lookup y.1).isSome=true):=λ⟨n,v⟩ hy=>by
   rcases S.par n (JH hy).1 with q|q
   . exact .inl q
   . exact .inr #[q,PySem.W.cellsFrom_some _ _ _ (.inl q)]
 refine codeAny_call_function hr.depth (KX _ _ lk) rfl S.co S.gen rfl (PySem.W.codeRec_of KX hcd) (hb _ _ _ _ ?_);refine wpAny_newFunctionEnv_cells S.kind hkind λenv he s1 x=>?_;subst he;show#[lim.keeps x.toInCall.keep,codeAny_func ?_];let#[t,ht,hq]:=hbody A outer s H vs Q E (hr.deeper _) hsp;have I:Inv (j6 CX P w K mg base N qual scope f cdv A outer s H E) [] (fJ N vs) H s1:=zM S hr.hd e0 hl r x;refine JR (ht [] s1 (fJ N vs) H _ I hq) (λfl s' hs=>?_) λe s' hs=>hs;have fin:∀{σ':St} {H':Hp} {v:V} {u:Ke},Inv (j6 CX P w K mg base N qual scope f cdv A outer s H E) [] σ' H' s'->ag v u->Q v H'->CE outer P w H s Q u s' :=
   λ{σ' H' v u} J rv q=>#[v,H',J.os,J.bare,J.base,J.hok,rv,q]
 cases fl with
 | ret u =>
   let#[v,σ',H',J,rv,q]:=hs;exact fin J rv q
 | next =>
   let#[σ',H',J,q]:=hs;exact fin (v:=V.non) (u:=Value.none) J rfl q
 | brk =>
   let#[_,_,_,q]:=hs;exact False.elim q
 | cont =>
   let#[_,_,_,q]:=hs;exact False.elim q
section
variable {X:Cx} {x:Str} {p pos:Pos} {e:Expr} {es:List Expr} {t:TA} {id T:String} {r:List V->Hp->VK->Prop}
abbrev tCB (r:List V->Hp->VK->Prop) (t:TA):TE:=λσ H Q=>t σ H λvs H1=>r vs H1 Q
def bY (hc:bh X (.builtin id) r) (hg:Gl X x) (hm:X.mg x=none) (hv:bootBuiltins x=⇑(.builtin id)) (ha:PA X (e::es) t) (hn:x≠"__name__":=by decide) (hdb:(x==("__debug__":Str))=false:=by decide)
   (he:starEach (e::es) X.env=(false,eval e X.env)::starEach es X.env:=by rfl) (hpl:(backTo pos (starEach es X.env)).any (·.1)=false:=by rfl):PE X (.Call (.Name x p) (e::es) [] pos) (tCB r t):=by
 intro pins s σ H Q I h;refine JJ (fD I hg hm hv ?_ hn hdb);exact PyProof.Rows.callWith_builtin1 (aW (ha pos pins s σ H _ I h) λus s1 z82_=>by let#[vs,H1,I1,r1,q1]:=z82_; exact hc pins s1 σ H1 vs us Q I1 r1 q1) he hpl
def cc (hc:bh X (.type T) r) (hg:Gl X x) (hm:X.mg x=none) (hv:bootBuiltins x=⇑(.type T)) (ha:PA X (e::es) t) (hn:x≠"__name__":=by decide) (hdb:(x==("__debug__":Str))=false:=by decide)
   (he:starEach (e::es) X.env=(false,eval e X.env)::starEach es X.env:=by rfl) (hpl:(backTo pos (starEach es X.env)).any (·.1)=false:=by rfl):PE X (.Call (.Name x p) (e::es) [] pos) (tCB r t):=by
 intro pins s σ H Q I h;refine JJ (fD I hg hm hv ?_ hn hdb);exact IF (aW (ha pos pins s σ H _ I h) λus s1 z83_=>by let#[vs,H1,I1,r1,q1]:=z83_; exact hc pins s1 σ H1 vs us Q I1 r1 q1) he hpl
end
end L2
namespace HT
open PySem PyProof.Rows
section
variable {prog:Program} {w:World} {A:Around} {E:Ke->Kf->Prop} {s:Kf}
def cat_tup {t b:Kg} {vs ws:List Ke} {Q:Ke->Kf->Prop} (ht:IsTup s.heap t vs.toArray) (hb:IsTup s.heap b ws.toArray) (hv:vs≠[])
   (h1:ws=[]->Q ↥t s) (h2:ws≠[]->Q ↥s.heap.objs.size { s with heap:=s.heap.push { cls:=.type "tuple",data:=.seq (vs++ws).toArray } })
   (hsz:vs.length+ws.length<=sizeLine):wpAny (model prog w) A (binaryOp .Add ↥t ↥b) Q E s:=by
 obtain⟨⟨cls,dd,data,sl⟩,ho,hc,n,hd⟩:=id ht;obtain⟨⟨cls2,dd2,data2,sl2⟩,ho2,hc2,n2,hd2⟩:=id hb;simp only at hc hd hc2 hd2;subst hc hd hc2 hd2;have e:vs.toArray++ws.toArray=(vs++ws).toArray:=by simp
 by_cases hw:ws=[]
 . exact concat_meets #[_,ho,rfl] #[_,ho2,rfl] noFill_tuple_add seq_tuple_add PySem.F.slot_tuple_add KS (KP _ _)
     (tuple_addW1 t b vs.toArray ws.toArray n n2 dd dd2 sl sl2 ↑hv (by simp [hw])) #[ho,ho2,h1 hw]
 . refine concat_meets #[_,ho,rfl] #[_,ho2,rfl] noFill_tuple_add seq_tuple_add PySem.F.slot_tuple_add KS (KP _ _)
     (tuple_addW2 t b vs.toArray ws.toArray n n2 dd dd2 sl sl2 ↑hv ↑hw (by rw[HZ,HZ]; exact hsz)) #[ho,ho2,?_]
   rw[e];exact h2 hw
abbrev sIx (n d:Nat):Kd Int->Nat
 | none=>d
 | some v=>if v<0 then(v+(n:Int)).toNat else min v.toNat n
def sIx_nat (n d k:Nat):sIx n d ⇑(k:Int)=min k n:=by show(if(k:Int)<0 then((k:Int)+(n:Int)).toNat else min (k:Int).toNat n)=min k n;rw[Gu ∅,Hm]
def CU (n d:Nat) (hd:d<=n) (o:Kd Int):sIx n d o<=n:=by
 cases o with
 | none=>exact hd
 | some v =>
   show(if v<0 then(v+(n:Int)).toNat else min v.toNat n)<=n;by_cases hv:v<0
   . rw[HI hv]; lia
   . rw[Gu hv]; exact Nat.min_le_right _ _
def tO (v:Int) (n d:Nat):(if v<0 then max (v+(n:Int)) 0 else min v (n:Int))=((sIx n d ⇑v:Nat):Int):=by
 show(if v<0 then max (v+(n:Int)) 0 else min v (n:Int))=(((if v<0 then(v+(n:Int)).toNat else min v.toNat n):Nat):Int);by_cases hv:v<0
 . simp only[HI hv]; lia
 . simp only[Gu hv]; lia
def CT (lo hi:Kd Int) (n:Nat):Builtin.Slice.sliceAdjust lo hi 1 (n:Int)=(((sIx n 0 lo:Nat):Int),((sIx n n hi:Nat):Int)):=by
 have h1:¬ ((1:Int)<0):=by lia
 unfold Builtin.Slice.sliceAdjust;simp only[h1,if_false];refine Prod.ext ?_ ?_
 . cases lo with
   | none=>rfl
   | some v=>exact tO v n 0
 . cases hi with
   | none=>rfl
   | some v=>exact tO v n n
def Af (i j:Nat):Builtin.Slice.slicePlaces (i:Int) (j:Int) 1=j - i:=by
 unfold Builtin.Slice.slicePlaces;have h1:(1:Int) > 0:=by lia
 simp only[h1,if_true,Int.ediv_one];split <;> lia
def u8 {v:Ke} {o:Kd Int} {Q:Kd Int->Kf->Prop} (p:IsPart v o) (h:Q o s):wpAny (model prog w) A (Builtin.Slice.slicePartIndex v) Q E s:=by
 cases p with
 | none=>exact slicePart_none h
 | int i t=>exact slicePart_int h
def uD {sl:Kg} {vl vu:Ke} {lo hi:Kd Int} {n:Nat} {Q:Int×Int×Nat->Kf->Prop} (hs:s.heap.IsSliceOf sl vl vu .none) (pl:IsPart vl lo) (pu:IsPart vu hi)
   (h:Q (((sIx n 0 lo:Nat):Int),1,sIx n n hi - sIx n 0 lo) s):wpAny (model prog w) A (Builtin.Slice.sliceApplied ↥sl (pure (n:Int))) Q E s:=by
 let#[os,hos,hcs,hds]:=id hs;unfold Builtin.Slice.sliceApplied Builtin.Slice.sliceFields;refine Gp (Gp (IA hos hds (x:=vl) rfl (Gp (IA hos hds (x:=vu) rfl (Gp (IA hos hds (x:=.none) rfl (HL ?_)))))));refine Gp (slicePart_none ?_);show wpAny _ _ (if((1:Int)==0)=true then _ else _) _ _ s;rw[Gu #[]];refine Gp (u8 pl (Gp (u8 pu (Gp (HL ?_)))));show wpAny _ _ (match Builtin.Slice.sliceAdjust lo hi 1 (n:Int) with|(lo,hi)=>pure (lo,(1:Int),Builtin.Slice.slicePlaces lo hi 1)) _ _ s;rw[CT lo hi n];show wpAny _ _ (pure (((sIx n 0 lo:Nat):Int),(1:Int),Builtin.Slice.slicePlaces ((sIx n 0 lo:Nat):Int) ((sIx n n hi:Nat):Int) 1)) _ _ s;rw[Af];exact HL h
def BM (xs:Array Ke) (i k:Nat):((List.range k).filterMap λ(m:Nat)=>xs[((i:Int)+(m:Int) * 1).toNat]?).toArray=((xs.toList.drop i).take k).toArray:=by
 have e:(λ(m:Nat)=>xs[((i:Int)+(m:Int) * 1).toNat]?)=λm=>xs[i+m]?:=by
   funext m;have:((i:Int)+(m:Int) * 1).toNat=i+m:=by lia
   rw[this]
 rw[e];have:=pick_run xs i k;rw[List.filterMap_map] at this;have e2:((λx=>xs[x]?) ∘ λx=>i+x)=λm=>xs[i+m]?:=rfl;rw[e2] at this;rw[this]
def getItem_tuple_cut {t sl:Kg} {items:Array Ke} {vl vu:Ke} {lo hi:Kd Int} {Q:Ke->Kf->Prop} (ht:IsTup s.heap t items) (hs:s.heap.IsSliceOf sl vl vu .none) (pl:IsPart vl lo) (pu:IsPart vu hi)
   (hw:¬ (sIx items.size 0 lo=0/\sIx items.size items.size hi=items.size))
   (h:Q ↥s.heap.objs.size { s with heap:=s.heap.push { cls:=.type "tuple",data:=.seq ((items.toList.drop (sIx items.size 0 lo)).take (sIx items.size items.size hi - sIx items.size 0 lo)).toArray } })
   (hsz:items.size<=sizeLine):wpAny (model prog w) A (getItem ↥t ↥sl) Q E s:=by
 have htake:sizeOk (.seq ((items.toList.drop (sIx items.size 0 lo)).take (sIx items.size items.size hi - sIx items.size 0 lo)).toArray):=by
   show((items.toList.drop (sIx items.size 0 lo)).take (sIx items.size items.size hi - sIx items.size 0 lo)).toArray.size<=sizeLine;rw[HZ,Hl,Jg,J']
   lia
 have hj:sIx items.size items.size hi<=items.size:=CU _ _ (Gw _) hi;let#[os,hos,hcs,hds]:=id hs;have hTs:s.TypeIs ↥sl "slice":=#[os,hos,hcs]
 unfold getItem
 try with_reducible refine IU ?_
 first|refine Gp (HL ?_)|skip
 refine Gp (KG ht.typeIs #[] ?_);refine Gp (wpAny_callSpecial?_slot (name:=Str.ofString "__getitem__") ht.typeIs IT
   (IW IT ht.typeIs entry_tuple_getitem ?_ (args_tuple_getitem _ _)))
 show wpAny _ _ (Builtin.Tuple.tupleItemsOf ↥t >>= _) _ _ s;refine Gp (tupleItemsOf_ ht ?_);refine Gp (Js hTs ?_);rw[HI #[]];refine Gp (uD hs pl pu ?_);have hno:¬ ((((sIx items.size 0 lo:Nat):Int)==0&&(1:Int)==1&&(sIx items.size items.size hi - sIx items.size 0 lo)==items.size)=true):=by intro q;rw[Ho,Ho] at q;have q1:((sIx items.size 0 lo:Nat):Int)=0:=eq_of_beq q.1.1;have q2:sIx items.size items.size hi - sIx items.size 0 lo=items.size:=eq_of_beq q.2;exact hw #[∅,∅]
 show wpAny _ _ (if(((sIx items.size 0 lo:Nat):Int)==0&&(1:Int)==1&&(sIx items.size items.size hi - sIx items.size 0 lo)==items.size)=true then _ else _) _ _ s;rw[Gu hno,BM]
 first
   | exact Gp (m:=Builtin.Tuple.tupleExact _) (Iu (HL ⟨_,rfl,HL h⟩) htake)
   | exact Gp (m:=Builtin.Tuple.tupleExact _) (Iu (Gp (HL (HL ⟨_,rfl,HL h⟩))) htake)
   | exact Gp (Gp (m:=Builtin.Tuple.tupleExact _) (Iu (HL (HL ⟨_,rfl,HL h⟩)) htake))
   | exact Gp (Gp (m:=Builtin.Tuple.tupleExact _) (Iu (HL ⟨_,rfl,HL h⟩) htake))
end
end HT
namespace L2
open PySem PySem.Spec PyProof.Rows
noncomputable abbrev TO:=St->Hp->(Kd Int->Hp->Prop)->Prop
abbrev PO (X:Cx) (e:Kd Expr) (t:TO):Prop :=
 ∀(pins:List (Kg×Obj)) (s:Kf) (σ:St) (H:Hp) (Q:Kd Int->Hp->Prop),Inv X pins σ H s->t σ H Q ->
   wpAny 0x8 X.A (evalPart e X.env) (λu s'=>∃o H',Inv X pins σ H' s'/\IsPart u o/\Q o H') X.xe s
abbrev D7:TO:=λ_ H Q=>Q none H
abbrev C5 (t:TE):TO:=λσ H Q=>t σ H λx H1=>∃i,x=.int i/\Q ⇑i H1
section
variable {X:Cx} {e:Expr} {te:TE} {lo hi:Kd Expr} {tl th:TO} {pos p2:Pos}
def gy:PO X none D7:=by intro pins s σ H Q I h;rw[evalPart_none];exact HL #[none,H,I,.none,h]
def fN (h:PE X e te):PO X ⇑e (C5 te):=by intro pins s σ H Q I hw;rw[evalPart_some];refine aW (h pins s σ H _ I hw) λu s1 z84_=>?_;let#[x,H1,I1,r1,q1]:=z84_;let#[i,rfl,q]:=q1;let#[t,rfl]:=r1;show#[⇑i,H1,I1,.int i t,q]
abbrev fX (X:Cx) (r:V->Kd Int->Kd Int->Hp->VK->Prop):Prop :=
 ∀(pins:List (Kg×Obj)) (s:Kf) (σ:St) (H:Hp) (x:V) (v vl vu:Ke) (lo hi:Kd Int) (sl:Kg) (Q:VK),Inv X pins σ H s->ag x v->s.heap.IsSliceOf sl vl vu .none->IsPart vl lo->IsPart vu hi->r x lo hi H Q ->
   ∃T id,typeLookup (.type T) "__getitem__"=pure ⇑(.builtin id)/\s.TypeIs v T/\wpAny 0x8 X.A (getItem v ↥sl) (EP X pins σ Q) X.xe s
def fX.or {r r':V->Kd Int->Kd Int->Hp->VK->Prop} (h:fX X r) (h':fX X r'):fX X (λx lo hi H Q=>r x lo hi H Q\/r' x lo hi H Q):=by
 intro pins s σ H x v vl vu lo hi sl Q I rx hs pl pu q;rcases q with q|q
 . exact h pins s σ H x v vl vu lo hi sl Q I rx hs pl pu q
 . exact h' pins s σ H x v vl vu lo hi sl Q I rx hs pl pu q
abbrev tSl (r:V->Kd Int->Kd Int->Hp->VK->Prop) (te:TE) (tl th:TO):TE:=λσ H Q=>te σ H λx H1=>tl σ H1 λl H2=>th σ H2 λu H3=>r x l u H3 Q
def gL {r:V->Kd Int->Kd Int->Hp->VK->Prop} (hr:fX X r) (he:PE X e te) (hl:PO X lo tl) (hu:PO X hi th):PE X (.Subscript e (.Slice lo hi none p2) pos) (tSl r te tl th):=by intro pins s σ H Q I h;refine Subscript_ (aW (he pins s σ H _ I h) λv s1 z85_=>?_);let#[x,H1,I1,r1,q1]:=z85_;refine wpAny_Slice (aW (hl pins s1 σ H1 _ I1 q1) λvl s2 ⟨l,H2,I2,pl,q2⟩=>aW (hu pins s2 σ H2 _ I2 q2) λvu s3 z87_=>?_);let#[u,H3,I3,pu,q3]:=z87_;rw[evalPart_none];refine HL ?_;have I4:Inv X pins σ H3 { s3 with heap:=s3.heap.push { cls:=.type "slice",data:=.fields (List.toArray [vl,vu,.none]) } }:=I3.kept (t':=s3.toks) λb ob q=>Gr _ q;let#[T,id,hT,ht,hg]:=hr pins { s3 with heap:=s3.heap.push { cls:=.type "slice",data:=.fields (List.toArray [vl,vu,.none]) } } σ H3 x v vl vu l u s3.heap.objs.size Q I4 r1 (Heap.IsSliceOf.new ..) pl pu q3;show wpAny 0x8 X.A (subscriptTail e (.Slice lo hi none p2) v ↥s3.heap.objs.size) (EP X pins σ Q) X.xe { s3 with heap:=s3.heap.push { cls:=.type "slice",data:=.fields (List.toArray [vl,vu,.none]) } };exact tail_any (ops:=[↥s3.heap.objs.size,v]) ht hT hg (by with_unfolding_all rfl)
abbrev cR (xs:List V) (lo hi:Kd Int):List V:=(xs.drop (HT.sIx xs.length 0 lo)).take (HT.sIx xs.length xs.length hi - HT.sIx xs.length 0 lo)
def qQ (xs:List V) (lo hi:Kd Int):(cR xs lo hi).length<=xs.length:=by
 unfold cR;rw[Hl,Jg]
 lia
abbrev rX (K:Kh):V->Kd Int->Kd Int->Hp->VK->Prop:=λx lo hi H Q=>∃a xs,x=↥a/\aN K H a xs /\
 ¬ (HT.sIx xs.length 0 lo=0/\HT.sIx xs.length xs.length hi=xs.length)/\∀p,H p=none->Q ↥p (upd H p (.tup (cR xs lo hi)))
def EC:fX X (rX X.K):=by
 intro pins s σ H x v vl vu lo hi sl Q I rx hs pl pu h;let#[a,xs,rfl,hx,hw,q]:=h;cases rx;let#[its,r,ht,hz]:=I.tuple hx;have hlen:its.toArray.size=xs.length:=by rw[HZ]; exact r.length.symm
 show#["tuple",_,IT.lookup,ht.typeIs,?_];refine HT.getItem_tuple_cut ht hs pl pu (by rw[hlen]; exact hw) ?_ (by rw[hlen]; exact hz);rw[hlen];show#[↥s.heap.objs.size,_,I.laid (t':=s.toks) (o:=.tup (cR xs lo hi)) (λb ob q=>Gr _ q) (Gw _) ?_,rfl,q _ (I.hok.fresh (Gw _))];show#[Hf (qQ xs lo hi) hz,_,(r.drop (HT.sIx xs.length 0 lo)).take (HT.sIx xs.length xs.length hi - HT.sIx xs.length 0 lo),IsTup.new _ _]
abbrev Fe (K:Kh):R2:=λx y H Q=>∃a b xs ys,x=↥a/\y=↥b/\aN K H a xs/\aN K H b ys/\xs≠[]/\xs.length+ys.length<=sizeLine /\
 (ys=[]->Q ↥a H)/\(ys≠[]->∀p,H p=none->Q ↥p (upd H p (.tup (xs++ys))))
def ae.nil_iff {xs:List V} {us:List Ke} (r:ae xs us):us=[] <-> xs=[]:=by
 cases r with
 | nil=>simp
 | cons _ _=>simp
def GH:bU X (binaryOp .Add) (Fe X.K):=by intro pins s σ H x y v u Q I rx ry h;let#[a,b,xs,ys,rfl,rfl,ha,hb,hx,hz,q1,q2]:=h;cases rx;cases ry;let#[its,r1,p1,_]:=I.tuple ha;let#[its2,r2,p2,_]:=I.tuple hb;refine HT.cat_tup p1 p2 (λz=>hx (r1.nil_iff.mp z)) (λz=>#[↥a,H,I,rfl,q1 (r2.nil_iff.mp z)]) (λz=>?_) (by rw[<- r1.length,<- r2.length]; exact hz);show#[↥s.heap.objs.size,_,I.laid (t':=s.toks) (o:=.tup (xs++ys)) (λb ob q=>Gr _ q) (Gw _) ?_,rfl,q2 (λw=>z (r2.nil_iff.mpr w)) _ (I.hok.fresh (Gw _))];show#[by rw[Gv]; exact hz,_,r1.append r2,IsTup.new _ _]
end
abbrev d9 (n:Nat) (i:Int):Kd Nat:=if 0<=i then(if i<n then ⇑i.toNat else none) else if -(n:Int)<=i then ⇑(i+n).toNat else none
abbrev bD {α:Type} (xs:List α) (i:Int):Kd α:=(d9 xs.length i).bind λj=>xs[j]?
variable {n:Nat}
def tH {i:Int} {j:Nat} (h:d9 n i=⇑j):seqIndex? i n=⇑j/\j<n/\-(n:Int)<=i/\i<n:=by
 unfold d9 at h;by_cases h0:0<=i
 . rw[HI h0] at h;by_cases h1:i<n
   . rw[HI h1] at h;have e:i.toNat=j:=Option.some.inj h;show#[by rw[seqIndex_of h0 h1,e],∅,∅,h1]
   . rw[Gu h1] at h; cases h
 . rw[Gu h0] at h;by_cases h1:-(n:Int)<=i
   . rw[HI h1] at h;have e:(i+n).toNat=j:=Option.some.inj h;show#[by rw[seqIndex_neg ∅ h1,e],∅,h1,∅]
   . rw[Gu h1] at h; cases h
def nY {α:Type} {xs:List α} {i:Int} {v:α} (h:bD xs i=⇑v):∃j,seqIndex? i xs.length=⇑j/\xs[j]?=⇑v/\j<xs.length/\-(xs.length:Int)<=i/\i<xs.length:=by
 unfold bD at h;cases e:d9 xs.length i with
 | none=>rw[e] at h; cases h
 | some j =>
   rw[e] at h;let#[h1,h2,h3,h4]:=tH e;show#[j,h1,h,h2,h3,h4]
def dO {α:Type} {xs:List α} {j:Nat} {v:α} (h:xs[j]?=⇑v):bD xs (j:Int)=⇑v:=by
 have hj:j<xs.length:=(Gq.mp h).1;have e:d9 xs.length (j:Int)=⇑j:=by unfold d9;rw[HI ∅,HI ∅]; simp
 unfold bD; rw[e]; exact h
def jI {α:Type} (xs:List α) (v:α):bD (xs++[v]) (-1)=⇑v:=by
 have hl:(xs++[v]).length=xs.length+1:=by simp
 have e:d9 (xs++[v]).length (-1)=⇑xs.length:=by
   unfold d9;rw[hl,Gu #[],HI ∅];congr 1
   lia
 unfold bD;rw[e];show(xs++[v])[xs.length]?=⇑v;simp
abbrev yT (b:Expr):Prop:=∀o i,subscripted b false o i=operate [o,i] (getItem o i)
abbrev aR (X:Cx) (r:R2):Prop :=
 ∀(value slice:Expr) (pins:List (Kg×Obj)) (s:Kf) (σ:St) (H:Hp) (x y:V) (v u:Ke) (Q:VK),Inv X pins σ H s->ag x v->ag y u->r x y H Q ->
   subscripted slice false v u=operate [v,u] (getItem v u)->wpAny 0x8 X.A (subscriptTail value slice v u) (EP X pins σ Q) X.xe s
abbrev MtR (X:Cx) (id:String) (r:V->List V->Hp->VK->Prop):Prop :=
 ∀(pins:List (Kg×Obj)) (s:Kf) (σ:St) (H:Hp) (x:V) (xs:List V) (v:Ke) (us:List Ke) (Q:VK),Inv X pins σ H s->ag x v->ae xs us->r x xs H Q ->
   wpAny 0x8 X.A (call (.builtin id) (v::us)) (EP X pins σ Q) X.xe s
variable {x:V}
section
variable {X:Cx} {a b:Expr} {ta tb:TE} {pos:Pos}
def aM {r:R2} (hr:aR X r) (ha:PE X a ta) (hb:PE X b tb) (hs:yT b):PE X (.Subscript a b pos) (jO r ta tb):=by intro pins s σ H Q I h;exact Subscript_ (md ha hb I h λv u s2 x y H2 I2 rx ry q=>hr a b pins s2 σ H2 x y v u Q I2 rx ry q (hs _ _))
abbrev zY (K:Kh):R2:=λx y H Q=>∃p xs i v,x=↥p/\y=.int i/\aG K H p xs/\bD xs i=⇑v/\Q v H
abbrev fL (K:Kh):R2:=λx y H Q=>∃p xs i v,x=↥p/\y=.int i/\aN K H p xs/\bD xs i=⇑v/\Q v H
abbrev yq:R2:=λx y H Q=>∃z i c,x=.str z/\y=.int i/\z.length<=sizeLine/\bD z.cps.toList i=⇑c/\Q (.str #[(List.toArray [c])]) H
def dg:aR X (zY X.K):=by
 intro value slice pins s σ H x y v u Q I rx ry h hs;let#[p,xs,i,z,rfl,rfl,hq,he,q]:=h;cases rx;let#[t,rfl]:=ry;let#[its,r,pl,hz]:=I.list hq;let#[j,h1,h2,h3,h4,h5]:=nY he;let#[w,ew,rw']:=r.get h2;have hl:=r.length;have hn:=iR;have fin:EP X pins σ Q w s:=#[z,H,I,rw',q]
 by_cases h0:0<=i
 . have hj:i.toNat=j:=by rw[seqIndex_of h0 h5] at h1;exact Option.some.inj h1
   exact item_listR pl.isList h0 ∅ (by rw[hj]; simpa using ew) fin hs
 . have hj:(i+(its.toArray.size:Int)).toNat=j:=by rw[seqIndex_neg ∅ h4] at h1;rw[HZ,<- hl];exact Option.some.inj h1
   exact subscriptTail_builtinR (x:=w) pl.isList.typeIs slot_list_getitem.lookup
     (wpAny_getItem_list_neg (Q:=λr s'=>r=w/\EP X pins σ Q r s') pl.isList ∅ (by rw[HZ] <;> lia) ∅ (by rw[hj]; simpa using ew) #[rfl,fin]) hs
def ak:aR X (fL X.K):=by
 intro value slice pins s σ H x y v u Q I rx ry h hs;let#[p,xs,i,z,rfl,rfl,hq,he,q]:=h;cases rx;let#[t,rfl]:=ry;let#[its,r,pl,hz]:=I.tuple hq;let#[j,h1,h2,h3,h4,h5]:=nY he;let#[w,ew,rw']:=r.get h2;have hl:=r.length;have hn:=iR;have fin:EP X pins σ Q w s:=#[z,H,I,rw',q]
 exact subscriptTail_builtinR (x:=w) pl.typeIs slot_tuple_getitem.lookup
   (getItem_tuple (j:=j) (Q:=λr s'=>r=w/\EP X pins σ Q r s') pl ∅ ∅ (by rw[HZ,<- hl]; exact h1) ↑ew #[rfl,fin]) hs
def nU:aR X yq:=by
 intro value slice pins s σ H x y v u Q I rx ry h hs;let#[z,i,c,rfl,rfl,hz,he,q]:=h;let#[t,rfl]:=rx;let#[t',rfl]:=ry;let#[j,h1,h2,h3,h4,h5]:=nY he;have hl:z.cps.toList.length=z.length:=by simp [Str.length]
 rw[hl] at h1 h4 h5;have hn:=iR;exact tail_any (typeIs_str s z t) slot_str_getitem.lookup (getItem_str (c:=c) (by have e1:decide (i < -(2 ^ 63:Int))=false:=Hg ∅;have e2:decide (i>=2 ^ 63)=false:=Hg ∅;rw[e1,e2,Kc]) (by rw[h1]; simpa using h2) #[.str #[(List.toArray [c])],H,I.tok _,#[5],q]) hs
def DW (its:List Ke) (n j:Nat) (u:Ke):Obj.mapSeq (·.setIfInBounds j u) { cls:=.type "list",data:=.seq its.toArray n }={ cls:=.type "list",data:=.seq (its.set j u).toArray n }:=by simp [Obj.mapSeq]
def Inv.lst {pins:List (Kg×Obj)} {σ:St} {H:Hp} {s:Kf} {p:Kg} {xs:List V} (I:Inv X pins σ H s) (h:H p=⇑(.lst xs)) :
   ∃(its:List Ke) (n:Nat),ae xs its/\s.heap.get? p=some { cls:=.type "list",data:=.seq its.toArray n }/\xs.length<=sizeLine:=by
 let#[z,its,n,r,e]:=I.hok p _ h;show#[its,n,r,e,z]
def Inv.lstUpd {pins:List (Kg×Obj)} {σ:St} {H:Hp} {s:Kf} {p:Kg} {xs ys:List V} {its its':List Ke} {n':Nat}{f:Obj->Obj} (I:Inv X pins σ H s) (h:H p=⇑(.lst xs))
   (ho:s.heap.get? p=some { cls:=.type "list",data:=.seq its.toArray n }) (hf:f { cls:=.type "list",data:=.seq its.toArray n }={ cls:=.type "list",data:=.seq its'.toArray n' }) (r:ae ys its') (hz:ys.length<=sizeLine) (t:Nat) :
   Inv X pins σ (upd H p (.lst ys)) { s with heap:=s.heap.update p f,toks:=t }:=by
 have e:(s.heap.update p f).get? p=some { cls:=.type "list",data:=.seq its'.toArray n' }:=by rw[Jp f ho (by rw[hf] <;> rfl),hf]
 refine I.write (x:=p) (e:=p) (by rw[h]; trivial) (.inl rfl) (λb u hb q=>(Heap.get?_update_other _ _ (Ne.symm hb))\q) #[_,e] ?_;show#[hz,its',n',r,e]
abbrev GO:V->V->V->Hp->(Hp->Prop)->Prop:=λo i v H Q=>∃p xs k j,o=↥p/\i=.int k/\H p=⇑(.lst xs)/\d9 xs.length k=⇑j/\Q (upd H p (.lst (xs.set j v)))
def gz:sJ X GO:=by
 intro pins s σ H o i v ov iv u Q I ro ri rv h;let#[p,xs,k,j,rfl,rfl,hp,hj,q]:=h;cases ro;let#[t,rfl]:=ri;let#[its,n,r,ho,hz]:=I.lst hp;let#[h1,h2,h3,h4]:=tH hj;have hl:=r.length;have hn:=iR;have I':Inv X pins σ (upd H p (.lst (xs.set j v))) { s with heap:=s.heap.update p (Obj.mapSeq (·.setIfInBounds j u)) } :=
   I.lstUpd hp ho (DW its n j u) (r.set rv j) (by rw[Jt]; exact hz) s.toks
 by_cases h0:0<=k
 . have hk:k.toNat=j:=by rw[seqIndex_of h0 h4] at h1;exact Option.some.inj h1
   exact PySem.W.ki_setAt ho h0 ∅ (by rw[HZ,<- hl]; exact h4) (by rw[hk]; show#[_,I',q])
 . have hk:(k+(its.toArray.size:Int)).toNat=j:=by rw[seqIndex_neg ∅ h3] at h1;rw[HZ,<- hl];exact Option.some.inj h1
   exact PySem.W.ki_setBack ho ∅ (by rw[HZ,<- hl]; exact h3) ∅ (by rw[hk]; show#[_,I',q])
def EQ (lo hi:Kd Int) (n:Nat):(sliceBounds lo hi none n).1=((HT.sIx n 0 lo:Nat):Int)/\(sliceBounds lo hi none n).2.1=((HT.sIx n n hi:Nat):Int)/\(sliceBounds lo hi none n).2.2=1:=by
 show#[?_,?_,rfl]
 . cases lo with
   | none=>simp [sliceBounds,HT.sIx]
   | some i =>
     simp only[sliceBounds,HT.sIx,Option.getD_none,show(1:Int) > 0 by decide,if_true];by_cases h:i<0
     . simp only[h,if_true] <;> lia
     . simp only[h,if_false] <;> lia
 . cases hi with
   | none=>simp [sliceBounds,HT.sIx]
   | some i =>
     simp only[sliceBounds,HT.sIx,Option.getD_none,show(1:Int) > 0 by decide,if_true];by_cases h:i<0
     . simp only[h,if_true] <;> lia
     . simp only[h,if_false] <;> lia
def B2 (its:List Ke) (lo hi:Kd Int):slicePick its.toArray lo hi none=((its.drop (HT.sIx its.length 0 lo)).take (HT.sIx its.length its.length hi - HT.sIx its.length 0 lo)).toArray:=by let#[h1,h2,h3]:=EQ lo hi its.toArray.size;unfold slicePick;rw[h1,h2,h3];simp only[sliceRange_one,pick_run,HZ] <;> rfl
abbrev zJ (K:Kh):V->Kd Int->Kd Int->Hp->VK->Prop:=λx lo hi H Q=>∃a xs,x=↥a/\aG K H a xs/\∀p,H p=none->Q ↥p (upd H p (.lst (cR xs lo hi)))
def gt:fX X (zJ X.K):=by intro pins s σ H x v vl vu lo hi sl Q I rx hs pl pu h;let#[a,xs,rfl,hx,q]:=h;cases rx;let#[its,r,ht,hz]:=I.list hx;have hlen:=r.length;show#["list",_,slot_list_getitem.lookup,ht.isList.typeIs,?_];refine wpAny_getItem_list_slice ht.isList hs pl pu .none 0xA ?_ (by rw[HZ] <;> lia);rw[B2,<- hlen];show#[↥s.heap.objs.size,_,I.laid (t':=s.toks) (o:=.lst (cR xs lo hi)) (λb ob q=>Gr _ q) (Gw _) ?_,rfl,q _ (I.hok.fresh (Gw _))];show#[Hf (qQ xs lo hi) hz,_,(0),(r.drop (HT.sIx xs.length 0 lo)).take (HT.sIx xs.length xs.length hi - HT.sIx xs.length 0 lo),HR _ rfl]
abbrev eY:V->Bool
 | .non=>true
 | .bl _=>true
 | .int _=>true
 | .str _=>true
 | _=>false
abbrev gW:V->V->Bool
 | .non,.non=>true
 | .bl a,.bl b=>a==b
 | .bl a,.int b=>(if a then 1 else 0)==b
 | .int a,.bl b=>a==(if b then 1 else 0)
 | .int a,.int b=>a==b
 | .str a,.str b=>a==b
 | _,_=>false
def BP {A:Around} {s:Kf} {y:V}{u v:Ke} (ry:ag y u) (rx:ag x v) (fy:eY y=true) (fx:eY x=true):SeqAt.EqAt A s u v (gW y x):=by
 cases y with
 | non =>
   cases ry;cases x with
   | non=>cases rx; exact SeqAt.EqAt.same _
   | bl b=>cases rx; exact SeqAt.EqAt.none_bool b
   | int b=>let#[t,rfl]:=rx; exact SeqAt.EqAt.none_int b t
   | str b=>let#[t,rfl]:=rx; exact SeqAt.EqAt.none_str b t
   | _=>exact absurd (show false=true from fx) Hd
 | bl a =>
   cases ry;cases x with
   | non=>cases rx; exact SeqAt.EqAt.bool_none a
   | bl b=>cases rx; exact SeqAt.EqAt.bool_bool a b
   | int b=>let#[t,rfl]:=rx; exact SeqAt.EqAt.bool_int a b t
   | str b=>let#[t,rfl]:=rx; exact SeqAt.EqAt.bool_str a b t
   | _=>exact absurd (show false=true from fx) Hd
 | int a =>
   let#[t',rfl]:=ry;cases x with
   | non=>cases rx; exact SeqAt.EqAt.int_none a t'
   | bl b=>cases rx; exact SeqAt.EqAt.int_bool a t' b
   | int b=>let#[t,rfl]:=rx; exact SeqAt.EqAt.int_int a t' b t
   | str b=>let#[t,rfl]:=rx; exact SeqAt.EqAt.int_str a t' b t
   | _=>exact absurd (show false=true from fx) Hd
 | str a =>
   let#[t',rfl]:=ry;cases x with
   | non=>cases rx; exact SeqAt.EqAt.str_none a t'
   | bl b=>cases rx; exact SeqAt.EqAt.str_bool a t' b
   | int b=>let#[t,rfl]:=rx; exact SeqAt.EqAt.str_int a t' b t
   | str b=>let#[t,rfl]:=rx; exact SeqAt.EqAt.str_str a t' b t
   | _=>exact absurd (show false=true from fx) Hd
 | _=>exact absurd (show false=true from fy) Hd
abbrev dZ (x:V) (u:Ke):Bool:=match u with
 | .none=>gW .non x
 | .bool b=>gW (.bl b) x
 | .int i _=>gW (.int i) x
 | .str z _=>gW (.str z) x
 | _=>false
def rS {y:V}{u:Ke} (r:ag y u) (f:eY y=true):dZ x u=gW y x:=by
 cases y with
 | non=>cases r; rfl
 | bl b=>cases r; rfl
 | int i=>let#[t,rfl]:=r; rfl
 | str z=>let#[t,rfl]:=r; rfl
 | _=>exact absurd (show false=true from f) Hd
def kR :∀{xs:List V} {us:List Ke},ae xs us->xs.all eY=true->us.any (dZ x)=xs.any λy=>gW y x:=by
 intro xs us h f
 induction h with
 | nil=>rfl
 | cons r t ih =>
   rw[List.all_cons,Ho] at f;rw[JE,JE,rS r f.1,ih f.2]
def lG {A:Around} {s:Kf} {v:Ke} (rx:ag x v) (fx:eY x=true):∀{xs:List V} {us:List Ke},ae xs us->xs.all eY=true->∀u∈us,SeqAt.EqAt A s u v (dZ x u):=by
 intro xs us h f
 induction h with
 | nil=>intro u hu; cases hu
 | cons r t ih =>
   intro u' hu;rw[List.all_cons,Ho] at f;rcases HM.mp hu with rfl|hu
   . rw[rS r f.1]; exact BP r rx f.1 fx
   . exact ih f.2 u' hu
abbrev cS (x:V) (xs:List V):Bool:=xs.any λy=>gW y x
abbrev rIn (K:Kh) (neg:Bool):R2:=λx y H Q=>∃p xs,y=↥p/\(aG K H p xs\/aN K H p xs)/\eY x=true/\xs.all eY=true/\Q (.bl (if neg then !cS x xs else cS x xs)) H
def eS:bU X (compareOp .In) (rIn X.K false):=by
 intro pins s σ H x y v u Q I rx ry h;let#[p,xs,rfl,hq,fx,fs,q]:=h;cases ry;rcases hq with hq|hq
 . let#[its,r,pl,hz]:=I.list hq;refine SeqAt.in_listAt (dZ x) pl.isList (λw hw=>lG rx fx r fs w ↑hw) #[.bl _,H,I,rfl,?_];rw[show its.toArray.any (dZ x)=its.any (dZ x) by simp,kR r fs];exact q
 . let#[its,r,pl,hz]:=I.tuple hq;refine SeqAt.in_tupleAt (dZ x) pl (λw hw=>lG rx fx r fs w ↑hw) #[.bl _,H,I,rfl,?_];rw[show its.toArray.any (dZ x)=its.any (dZ x) by simp,kR r fs];exact q
def oN:bU X (compareOp .NotIn) (rIn X.K true):=by
 intro pins s σ H x y v u Q I rx ry h;let#[p,xs,rfl,hq,fx,fs,q]:=h;cases ry;rcases hq with hq|hq
 . let#[its,r,pl,hz]:=I.list hq;refine SeqAt.notIn_listAt (dZ x) pl.isList (λw hw=>lG rx fx r fs w ↑hw) #[.bl _,H,I,rfl,?_];rw[show its.toArray.any (dZ x)=its.any (dZ x) by simp,kR r fs];exact q
 . let#[its,r,pl,hz]:=I.tuple hq;refine SeqAt.notIn_tupleAt (dZ x) pl (λw hw=>lG rx fx r fs w ↑hw) #[.bl _,H,I,rfl,?_];rw[show its.toArray.any (dZ x)=its.any (dZ x) by simp,kR r fs];exact q
def gU:bh X (.builtin "len") (λxs H Q=>∃p ys,xs=[↥p]/\(aG X.K H p ys\/aN X.K H p ys)/\Q (.int ys.length) H):=by
 intro pins s σ H xs us Q I r h;let#[p,ys,rfl,hq,q]:=h;let#[u,rfl,rx]:=gJ r;cases rx;have hn:=iR;rcases hq with hq|hq
 . let#[its,r',pl,hz]:=I.list hq;have hlen:=r'.length;exact Calls.call_len_list pl.isList (by simp only[HZ] <;> lia) #[.int ys.length,H,I.tok _,#[s.toks+1,by rw[HZ,hlen]],q]
 . let#[its,r',pl,hz]:=I.tuple hq;have hlen:=r'.length;exact len_tuple pl (by simp only[HZ] <;> lia) #[.int ys.length,H,I.tok _,#[s.toks+1,by rw[HZ,hlen]],q]
def gf:bh X (.type "list") (λxs H Q=>∃p ys,xs=[↥p]/\(aG X.K H p ys\/aN X.K H p ys)/\∀l,H l=none->Q ↥l (upd H l (.lst ys))):=by
 intro pins s σ H xs us Q I r h;let#[p,ys,rfl,hq,q]:=h;let#[u,rfl,rx]:=gJ r;cases rx;have fin:∀(its:List Ke),ae ys its->ys.length<=sizeLine->∀(h':Heap) (c':Nat),(∀b o',s.heap.get? b=⇑o'->h'.get? b=⇑o') ->
     h'.get? s.heap.objs.size=some { cls:=.type "list",dict:=none,data:=.seq its.toArray c',slots:=(List.toArray []) }->EP X pins σ Q ↥s.heap.objs.size { s with heap:=h' }:=λits r' hz h' c' kp e =>
   #[↥s.heap.objs.size,_,I.laid (t':=s.toks) kp (Gw _) (show cE X.prog X.w _ h' _ (.lst ys) from#[hz,its,c',r',e]),rfl,q _ (I.hok.fresh (Gw _))]
 rcases hq with hq|hq
 . let#[its,r',pl,hz]:=I.list hq;have hlen:=r'.length;let#[o,ho,hc,n,hd]:=pl.isList;exact call_list_seq p (.inl rfl) ho hc hd (λh' c' kp e=>fin its r' hz h' c' kp e) (by simp only[HZ] <;> lia)
 . let#[its,r',pl,hz]:=I.tuple hq;have hlen:=r'.length;let#[o,ho,hc,n,hd]:=pl;exact call_list_seq p (.inr rfl) ho hc hd (λh' c' kp e=>fin its r' hz h' c' kp e) (by simp only[HZ] <;> lia)
def oI:bh X (.type "tuple") (λxs H Q=>∃p ys,xs=[↥p]/\((aG X.K H p ys/\∀l,H l=none->Q ↥l (upd H l (.tup ys)))\/(aN X.K H p ys/\Q ↥p H))):=by
 intro pins s σ H xs us Q I r h;let#[p,ys,rfl,h]:=h;let#[u,rfl,rx]:=gJ r;cases rx;rcases h with⟨hq,q⟩|⟨hq,q⟩
 . let#[its,r',pl,hz]:=I.list hq;have hlen:=r'.length;refine call_tuple_list pl.isList (λh' kp=>?_) (by simp only[HZ] <;> lia);have I1:Inv X pins σ H { s with heap:=h' }:=I.kept (t':=s.toks) kp;have I2:Inv X pins σ (upd H h'.objs.size (.tup ys)) { s with heap:=h'.push { cls:=.type "tuple",data:=.seq its.toArray } } :=
     I1.laid (t':=s.toks) (λb o e=>Gr _ e) (Gw _) (show cE X.prog X.w _ _ _ (.tup ys) from#[hz,its,r',IsTup.new _ _])
   show#[↥h'.objs.size,_,I2,rfl,q _ (I1.hok.fresh (Gw _))]
 . let#[its,r',pl,hz]:=I.tuple hq;exact call_tuple_same pl #[↥p,H,I,rfl,q]
abbrev mh (K:Kh) (T:String) (x:V) (H:Hp):Prop:=match x with
 | .str _=>T="str"
 | .int _=>T="int"
 | .ref p=>(T="list"/\∃xs,aG K H p xs)\/(T="tuple"/\∃o,K.lookup p=⇑o/\o.cls=.type "tuple"/\o.dict=none) \/
     (T="dict"/\((∃kvs,H p=⇑(.dK kvs))\/∃kvs,H p=⇑(.dT kvs)))\/(T="set"/\∃S n,H p=⇑(.set S n))
 | _=>False
def rZ {pins:List (Kg×Obj)} {σ:St} {H:Hp} {s:Kf} {T:String} {v:Ke} (I:Inv X pins σ H s) (r:ag x v) (ty:mh X.K T x H) :
   s.TypeIs v T/\∀a,v=↥a->∃ob,s.heap.get? a=⇑ob/\ob.dict=none:=by
 cases x with
 | str z =>
   let#[t,rfl]:=r;cases (show T="str" from ty);show#[typeIs_str s z t,λ_ e=>nomatch e]
 | int i =>
   let#[t,rfl]:=r;cases (show T="int" from ty);show#[typeIs_int s i t,λ_ e=>nomatch e]
 | ref p =>
   cases r;rcases ty with⟨rfl,xs,hq⟩|⟨rfl,o,hk,hc,hd⟩|⟨rfl,hk⟩|⟨rfl,S,n,hk⟩
   . let#[its,_,pl,_]:=I.list hq;show#[pl.isList.typeIs,λa e=>?_];cases e;let#[o,n,e,c,hd,_]:=pl;show#[o,e,hd]
   . show#[#[o,I.kIn p o hk,hc],λa e=>?_];cases e;show#[o,I.kIn _ o hk,hd]
   . have z:∃o,s.heap.get? p=⇑o/\o.ExactDict:=by
       rcases hk with⟨kvs,hk⟩|⟨kvs,hk⟩
       . let#[_,_,_,_,o,_,_,e,ex,_]:=I.hok p _ hk;show#[o,e,ex]
       . let#[_,_,_,_,o,_,_,e,ex,_]:=I.hok p _ hk;show#[o,e,ex]
     let#[o,e,ex]:=z;show#[#[o,e,ex.1],λa e2=>?_];cases e2;show#[o,e,ex.2.1]
   . let#[o,_,_,_,e,ex,_]:=I.hok p _ hk;show#[#[o,e,ex.1],λa e2=>?_];cases e2;show#[o,e,ex.2.1]
 | _=>exact False.elim ty
abbrev AY (K:Kh) (T:String) (r:V->List V->Hp->VK->Prop) (to:TE):TE:=λσ H Q=>to σ H λx H1=>mh K T x H1/\r x [] H1 Q
abbrev tBM (K:Kh) (T:String) (r:V->List V->Hp->VK->Prop) (to:TE) (t:TA):TE:=λσ H Q=>to σ H λx H1=>mh K T x H1/\t σ H1 λxs H2=>r x xs H2 Q
variable {o e:Expr} {es:List Expr} {to:TE} {t:TA} {name:Str} {apos cpos:Pos} {T id:String} {r:V->List V->Hp->VK->Prop}
def i3 (pa:PlainAttrs T) (slot:Slot T name id) (hty:typeOf (.builtin id)=pure (.type "method_descriptor")) (hm:MtR X id r) (ho:PE X o to)
   (hbase:attributeBase o name X.env (eval o X.env)=eval o X.env:=by rfl) (hline:(apos.endLine==cpos.line)=true:=by rfl):PE X (.Call (.Attribute o name apos) [] [] cpos) (AY X.K T r to):=by
 intro pins s σ H Q I h;refine KU hbase hline (aW (ho pins s σ H _ I h) λv s1 z88_=>?_);let#[x,H1,I1,r1,ty,q1]:=z88_;let#[h1,h2]:=rZ I1 r1 ty;show#[T,id,pa,slot,hty,h1,h2,Calls.callWith_builtin rfl (PySem.evalArgs_none (hm pins s1 σ H1 x [] v [] Q I1 r1 .nil q1))]
def br (pa:PlainAttrs T) (slot:Slot T name id) (hty:typeOf (.builtin id)=pure (.type "method_descriptor")) (hm:MtR X id r) (ho:PE X o to) (ha:PA X (e::es) t)
   (hbase:attributeBase o name X.env (eval o X.env)=eval o X.env:=by rfl)
   (hfew:((backTo cpos (starEach (e::es) X.env)).all (λx=>!x.1)&&(backToKw cpos (keywordEach [] X.env)).all (λx=>x.1.isSome)
     && decide ((e::es).length+([]:List Keyword).length+(if([]:List Keyword).isEmpty then 0 else 1)<30))=true:=by rfl)
   (hline:(apos.endLine==cpos.line)=true:=by rfl) (hs:starEach (e::es) X.env=(false,eval e X.env)::starEach es X.env:=by rfl) (hplain:(backTo cpos (starEach es X.env)).any (·.1)=false:=by rfl) :
   PE X (.Call (.Attribute o name apos) (e::es) [] cpos) (tBM X.K T r to t):=by
 intro pins s σ H Q I h;refine wpAny_Call_method_late hbase hfew hline rfl (aW (ho pins s σ H _ I h) λv s1 z89_=>?_);let#[x,H1,I1,r1,ty,q1]:=z89_;let#[h1,h2]:=rZ I1 r1 ty;show#[T,id,pa,slot,hty,h1,h2,?_];have hA:=ha cpos pins s1 σ H1 _ I1 q1;rw[hs] at hA ⊢;refine Calls.callWith_builtin (by show(false || (backTo cpos (starEach es X.env)).any (·.1))=false; rw[hplain] <;> rfl) (Calls.evalArgs_plain ?_);exact aW hA λus s2 z90_=>by let#[vs,H2,I2,r2,q2]:=z90_; exact hm pins s2 σ H2 x vs v us Q I2 r1 r2 q2
end
abbrev jt (X:Cx) (id:String) (r:V->List V->Hp->VK->Prop):Prop :=
 ∀(pins:List (Kg×Obj)) (s:Kf) (σ:St) (H:Hp) (x:V) (xs:List V) (v:Ke) (us:List Ke) (Q:VK),Inv X pins σ H s->ag x v->ae xs us->r x xs H Q ->
   wpAny 0x8 X.A (call (.builtin id) (v::us)) (EP X pins σ Q) X.xe s
def ae.one:∀{x:V} {us:List Ke},ae [x] us->∃u,us=[u]/\ag x u:=by
 intro x us h;cases h with
 | cons r t=>cases t; show#[5,r]
def ae.zero:∀{us:List Ke},ae [] us->us=[]
 | _,.nil=>rfl
def ae.dropLast {xs:List V} {us:List Ke} (h:ae xs us):ae xs.dropLast us.dropLast:=by
 induction h with
 | nil=>exact .nil
 | cons r t ih =>
   cases t with
   | nil=>exact .nil
   | cons q t'=>exact .cons r ih
def ae.rep {xs:List V} {us:List Ke} (h:ae xs us):∀k:Nat,ae (List.replicate k xs).flatten (List.replicate k us).flatten
 | 0=>.nil
 | k+1=>by rw[Ii,Ii,JX,JX];exact ae.append h (ae.rep h k)
def zG {α:Type} (l:List α):l.eraseIdx (l.length - 1)=l.dropLast:=by
 induction l with
 | nil=>rfl
 | cons a r ih =>
   cases r with
   | nil=>rfl
   | cons b r =>
     have e:(a::b::r).length - 1=((b::r).length - 1)+1:=by
       have h1:(a::b::r).length=r.length+2:=rfl;have h2:(b::r).length=r.length+1:=rfl
       lia
     rw[e,List.eraseIdx_cons_succ,ih]
     all_goals rfl
def rM (its:List Ke):∀(k:Nat) (acc:List Ke),
   List.foldl (λx1 x2=>x1++x2) acc.toArray (List.replicate k its.toArray)=(acc++(List.replicate k its).flatten).toArray
 | 0,acc=>by simp
 | k+1,acc=>by
   have e:acc.toArray++its.toArray=(acc++its).toArray:=by simp
   have e2:(acc++its)++(List.replicate k its).flatten=acc++(List.replicate (k+1) its).flatten:=by rw[Ii,JX,Iv]
   rw[<- e2,<- rM its k (acc++its),<- e,Ii,Hv]
section
variable {X:Cx} {pins:List (Kg×Obj)} {σ:St} {H:Hp} {s:Kf} {l b:Kg} {xs ys zs:List V}
def Inv.lset {its its':List Ke} {f:Array Ke->Array Ke} {t':Nat} (I:Inv X pins σ H s) (hH:H l=⇑(.lst xs))
   (e:s.heap.get? l=some { cls:=.type "list",data:=.seq its.toArray n }) (hf:f its.toArray=its'.toArray) (hv:ae ys its') (hz:ys.length<=sizeLine) :
   Inv X pins σ (upd H l (.lst ys)) { s with heap:=s.heap.update l (Obj.mapSeq f),toks:=t' }:=by
 have q:=PySem.IsL.update e f;rw[hf] at q;refine I.write (x:=l) (e:=l) (by rw[hH]; exact trivial) (.inl rfl) (λb' u hb hu=>(Heap.get?_update_other s.heap (Obj.mapSeq f) (Ne.symm hb))\hu) #[_,q] ?_;show#[hz,its',_,hv,q]
def Inv.lnew {its:List Ke} {t':Nat} (I:Inv X pins σ H s) (hv:ae ys its) (hz:ys.length<=sizeLine) :
   Inv X pins σ (upd H s.heap.objs.size (.lst ys)) { s with heap:=s.heap.push { cls:=.type "list",data:=.seq its.toArray },toks:=t' } :=
 I.laid (λ_ _ q=>Gr _ q) (Gw _) #[hz,its,(0),hv,HR _ rfl]
def Inv.fresh (I:Inv X pins σ H s):H s.heap.objs.size=none:=I.hok.fresh (Gw _)
def Inv.lstM (I:Inv X pins σ H s) (hH:H l=⇑(.lst xs)):xs.length<=sizeLine/\∃(its:List Ke) (n:Nat),ae xs its/\xs.length=its.length/\s.heap.get? l=some { cls:=.type "list",data:=.seq its.toArray n }:=by let#[z,its,n,r,e]:=I.hok l _ hH;show#[z,its,n,r,r.length,e]
def ql (h:n<=sizeLine):Builtin.List.listTooLong n=false:=by unfold Builtin.List.listTooLong;exact Hg ∅
end
section
variable {X:Cx}
abbrev FJ:V->List V->Hp->VK->Prop:=λx vs H Q=>∃l xs y,x=↥l/\vs=[y]/\H l=⇑(.lst xs)/\xs.length<sizeLine/\Q .non (upd H l (.lst (xs++[y])))
def eX:jt X "list.append" FJ:=by
 intro pins s σ H x vs v us Q I rx rv h;let#[l,xs,y,rfl,rfl,hH,hz,q]:=h;cases rx;let#[u,rfl,ru]:=rv.one;let#[z,its,n,r,hl,e]:=I.lstM hH;refine call_meets F.slot_list_append #[_,e,rfl] F.entry_list_append (F.args_list_append_2 _ _) (PySem.list_append l its.toArray n u (by rw[HZ]; lia)) #[e,?_];show#[.non,_,I.lset (its':=its++[u]) hH e 0xA (r.append (.cons ru .nil)) ?_,rfl,q];rw[Gv,Hr]
 lia
abbrev AL:V->List V->Hp->VK->Prop:=λx vs H Q=>∃l b xs zs,x=↥l/\vs=[↥b]/\H l=⇑(.lst xs)/\H b=⇑(.lst zs)/\xs.length+zs.length<=sizeLine/\Q .non (upd H l (.lst (xs++zs)))
def oO:jt X "list.extend" AL:=by
 intro pins s σ H x vs v us Q I rx rv h;let#[l,b,xs,zs,rfl,rfl,hH,hB,hz,q]:=h;cases rx;let#[u,rfl,ru]:=rv.one;cases ru;let#[z,its,n,r,hl,e]:=I.lstM hH;let#[z2,its2,n2,r2,hl2,e2]:=I.lstM hB;have hsz:its.toArray.size+its2.toArray.size<=sizeLine:=by rw[HZ,HZ]; lia
 have hlong:¬ (!its.toArray.isEmpty&&Builtin.List.listTooLong (its.toArray.size+its2.toArray.size))=true:=by rw[ql hsz,Bool.and_false];exact Hd
 refine call_meets F.slot_list_extend #[_,e,rfl] F.entry_list_extend (F.args_list_extend_2 _ _)
   (AutoSeq1.list_extend_list_list_0 l its.toArray n b its2.toArray n2 hlong (by rw[HZ]; lia) ∅) #[e,e2,?_]
 show#[.non,_,I.lset (its':=its++its2) hH e 0xA (r.append r2) ?_,rfl,q];rw[Gv]
 lia
abbrev B6:V->List V->Hp->VK->Prop:=λx vs H Q=>∃l xs y,x=↥l/\vs=[]/\H l=⇑(.lst xs)/\xs[xs.length - 1]?=⇑y/\Q y (upd H l (.lst xs.dropLast))
def kh:jt X "list.pop" B6:=by
 intro pins s σ H x vs v us Q I rx rv h;let#[l,xs,y,rfl,rfl,hH,hy,q]:=h;cases rx;have hus:=rv.zero;subst hus;let#[z,its,n,r,hl,e]:=I.lstM hH;let#[u,hu,ru]:=r.get hy;have hy':its.toArray[its.toArray.size - 1]?=⇑u:=by show its.toArray[its.length - 1]?=⇑u;rw[<- Array.getElem?_toList,<- hl];exact hu
 refine call_meets F.slot_list_pop #[_,e,rfl] F.entry_list_pop (F.args_list_pop_1 _) (MeetsSeq.list_pop_last l its.toArray n u hy' (by rw[HZ]; lia)) #[e,?_];show#[y,_,I.lset (its':=its.dropLast) hH e ?_ r.dropLast ?_,ru,q]
 . show its.toArray.eraseIdxIfInBounds (its.toArray.size - 1)=its.dropLast.toArray;rw[HZ,List.eraseIdxIfInBounds_toArray,zG]
 . rw[List.length_dropLast]
   lia
abbrev GT:V->List V->Hp->VK->Prop:=λx vs H Q=>∃l xs,x=↥l/\vs=[]/\H l=⇑(.lst xs)/\Q .non (upd H l (.lst []))
def oJ:jt X "list.clear" GT:=by intro pins s σ H x vs v us Q I rx rv h;let#[l,xs,rfl,rfl,hH,q]:=h;cases rx;have hus:=rv.zero;subst hus;let#[z,its,n,r,hl,e]:=I.lstM hH;refine call_meets F.slot_list_clear #[_,e,rfl] F.entry_list_clear (F.args_list_clear_1 _) (AutoSeq1.list_clear_list_0 l its.toArray n (by rw[HZ]; lia)) #[e,?_];show#[.non,_,I.lset (its':=[]) (ys:=[]) hH e rfl .nil (Hj _),rfl,q]
abbrev Dt:R2:=λx y H Q=>∃l b xs zs,x=↥l/\y=↥b/\H l=⇑(.lst xs)/\H b=⇑(.lst zs)/\xs.length+zs.length<=sizeLine/\∀p,H p=none->Q ↥p (upd H p (.lst (xs++zs)))
def iq:bU X (binaryOp .Add) Dt:=by
 intro pins s σ H x y v u Q I rx ry h;let#[l,b,xs,zs,rfl,rfl,hH,hB,hz,q]:=h;cases rx;cases ry;let#[z,its,n,r,hl,e]:=I.lstM hH;let#[z2,its2,n2,r2,hl2,e2]:=I.lstM hB;refine PySem.P.add_list e e2 ?_ (by rw[HZ,HZ]; lia);have ea:its.toArray++its2.toArray=(its++its2).toArray:=by simp
 rw[ea];show#[↥_,_,I.lnew (t':=s.toks) (r.append r2) (by rw[Gv]; lia),rfl,q _ I.fresh]
abbrev Do:R2:=λx y H Q=>∃l k xs,x=↥l/\y=.int k/\H l=⇑(.lst xs)/\-(2 ^ 63)<=k/\k<2 ^ 63/\xs.length * k.toNat<=sizeLine /\
 ∀p,H p=none->Q ↥p (upd H p (.lst (List.replicate k.toNat xs).flatten))
def uV {α:Type} (xs:List α) (k:Nat):(List.replicate k xs).flatten.length=k * xs.length:=by
 induction k with
 | zero=>simp
 | succ k ih=>rw[Ii,JX,Gv,ih,Nat.succ_mul,Nat.add_comm]
def ie:bU X (binaryOp .Mult) Do:=by
 intro pins s σ H x y v u Q I rx ry h;let#[l,k,xs,rfl,rfl,hH,h1,h2,hz,q]:=h;cases rx;let#[t,rfl]:=ry;let#[z,its,n,r,hl,e]:=I.lstM hH;have hlen:its.toArray.size * k.toNat<=sizeLine:=by rw[HZ,<- hl]; exact hz
 have hcap:¬ its.toArray.size * k.toNat > (2 ^ 63 - 1) / 8:=by
   have:(sizeLine:Nat)<=(2 ^ 63 - 1) / 8:=by decide
   lia
 have hfit:¬ (!Builtin.List.listFitsIndex k)=true:=by rw[fitsIndex_both h1 h2];exact Hd
 have hlong:¬ Builtin.List.listTooLong (its.toArray.size * k.toNat)=true:=by rw[ql hlen];exact Hd
 have hnew:List.foldl (λx1 x2=>x1++x2) (List.toArray []) (List.replicate (if its.toArray.isEmpty=true then 0 else k.toNat) its.toArray)=(List.replicate k.toNat its).flatten.toArray:=by
   have f0:∀m:Nat,List.foldl (λx1 x2=>x1++x2) (List.toArray []) (List.replicate m its.toArray)=(List.replicate m its).flatten.toArray:=λm=>by have:=rM its m [];rw[List.nil_append] at this;exact this
   rw[f0];cases its with
   | nil=>simp
   | cons a r'=>rw[Gu 0xA]
 refine wpAny_binaryOp_repeat_ref (T:="list") (U:="int") #[] #[_,e,rfl] (λs'=>typeIs_int s' k t) noFill_list_mul F.fills_int_mul F.slot_int_rmul repeat_list F.slot_int_index.lookup
   (call_meets F.slot_int_rmul (typeIs_int s k t) F.entry_int_rmul (F.args_int_rmul_2 _ _) (int___rmul___int_list k t l its.toArray n)
     #[e,rfl,#[_,e,rfl],call_meets F.slot_list_mul #[_,e,rfl] F.entry_list_mul (F.args_list_mul_2 _ _) (AutoListH.list___mul___list_int_3 l its.toArray n k t hfit hcap hlong) #[e,?_]])
 rw[hnew];show#[↥_,_,I.lnew (t':=s.toks) (r.rep k.toNat) (by rw[uV,Nat.mul_comm]; exact hz),rfl,q _ I.fresh]
end
end L2
namespace Att
open PySem PySem.W PySem.Calls PyProof.Rows
def zH {P:Params} {h:Heap}:∀(ns:List Int) (vs:List Ke),WellAll P h vs (ns.map WData.int)->IntsAre vs ns:=by
 intro ns
 induction ns with
 | nil =>
   intro vs w;rw[JM] at w;cases w;exact .nil
 | cons n ns ih =>
   intro vs w;rw[Hn] at w;cases w with
   | cons a b =>
     cases a;exact .cons _ _ (ih _ b)
def yU {l:OpenLaw} {n:Nat} (hn:l.most=⇑n) {P:Params} {h:Heap} {args:List WData} {vals:List Ke}
   (hpre:l.row.toRowW.claim.pre args=true) (hwl:WellAll P h vals args) :
   ∃a vs ns,vals=[Value.ref a]/\args=[WData.list (ns.map WData.int)]/\h.get? a=some { cls:=.type "list",data:=.seq vs.toArray }/\IntsAre vs ns/\ns.length<=n:=by
 have fO:WShape.hasAll [] args [.list .int]=true:=(pre_splitW hpre).1;have hc:l.pre.holds [] { args:=args }=true:=(pre_splitW hpre).2;let#[d,r,rfl,h1,h2]:=hasAllW_cons fO;obtain rfl:=hasAllW_nil h2;let#[xs,rfl,h3]:=hasW_list h1;let#[ns,rfl]:=items_int h3;have hlen:ns.length<=n:=by
   unfold OpenLaw.pre at hc;have h4:(WTm.not (.lt (.lit (.int (n:Int))) (.len (.arg 0)))).holds [] { args:=[.list (ns.map .int)] }=true:=by have h4:=(holds_andW hc).1;rw[hn] at h4;exact h4
   have h5:=condW_of h4 (w_not (w_lt w_lit (w_len_list (w_arg rfl))));rw[Go] at h5;refine Nat.le_of_not_lt λq=>?_;have q':(n:Int)<((ns.length:Nat):Int):=by lia
   first
     | (rw[HJ q'] at h5; exact absurd h5 #[])
     | (simp at h5; lia)
 cases hwl with
 | cons w1 w2 =>
   cases w2;cases w1 with
   | list ho hall=>show#[4,ns,7,ho,zH ns _ hall,hlen]
def A4 (l:OpenLaw) (args:List WData):l.row.toRowW.claim.post args (.bool true) args=true :=
 postW_of (r:=l.row.toRowW) (X:=(true==true))
   (show WShape.has [] (.bool true) .bool=true by first|rfl|decide|simp [WShape.has,WShape.arms,WShape.armsAll])
   (show(WTm.eq .res (.lit (.bool true))).value [] { args:=args,res:=⇑(.bool true),after:=args }=⇑(.bool (true==true)) from w_eq_bool (w_res rfl) w_lit) rfl
def attach_call {l:OpenLaw} {n:Nat} {q:Program} {loose:List Str} {XP:(Str->Kd Ke)->Heap->Prop} {YP:World->Heap->Prop} {d:DefRec}
   (hn:l.most=⇑n) (hdf:d.params.defaults=[])
   (call:∀(w:World) (s₀ s₁:Kf) (mg mb:Str->Kd Ke) (fa:Kg) (o:Obj) (pm cd doc:Ke) (a:Kg) (vs:List Ke) (ns:List Int),
     Ground q loose [] XP w s₀ mg mb s₁.heap->YP w s₁.heap ->
     s₁.heap.get? fa=⇑o->o.data=.func (docDef d.name d.params d.body d.scope pm cd doc)->s₁.heap.CodeRec cd d.name->mg d.name=⇑↥fa ->
     s₁.heap.get? a=some { cls:=.type "list",data:=.seq vs.toArray }->IntsAre vs ns->ns.length<=n->s₁.gens=(List.toArray []) ->
     codeAny (model l.prog w) callerA (.call ↥fa #[[↥a],[]]) (λr s'=>r=.ok (.ret (.bool true))/\OldK s₁.heap s'.heap/\s'.os=s₁.os/\AllBare s'.gens) s₁) :
   WalkO q loose XP YP l.row.toRowW d [] (λf vs=>PySem.call f vs):=by
 intro w s₀ s₁ mg mb G Y fa o pm cd doc dV kV ho hd hcd hD hmg hg args vals as hpre hlay hrd hwl hlo;obtain rfl:dV=.none:=Dflts.none hD hdf;obtain rfl:kV=.none:=Dflts.noKw hD;let#[a,vs,ns,rfl,rfl,hobj,hints,hlen]:=yU hn hpre hwl;refine enter_call (KO (call w s₀ s₁ mg mb fa o pm cd doc a vs ns G Y ho (fd_plain hd) hcd hmg hobj hints hlen hg) λr s' hq=>?_);let#[rfl,h2,h3,h4]:=hq;show#[.inl #[.bool true,.bool true,[],rfl,λ_=>rfl,.bool true,A4 l _,λ_=>#[List.Pairwise.nil,λ_ hm=>(nomatch hm)]],h2,h3,h4]
end Att
namespace L2
open PySem PySem.Spec PyProof.Rows
def BY:∀{vs:List Ke} {ns:List Int},IntsAre vs ns->ae (ns.map V.int) vs:=by
 intro vs ns h
 induction h with
 | nil=>exact .nil
 | cons n t h ih=>exact .cons #[t,rfl] ih
abbrev lN (H:Hp):Prop:=∀b,H b=none\/∃o xs,H b=⇑(.frz o (.lst xs))
variable {x:Str}
def BB {P:Program} {w:World} {K:Kh} {mg mb:Str->Kd Ke} {CX:eN} {k:Nat} {fa a:Kg} {fd:FuncData} {sp:Sp} {s₁:Kf} {vs:List Ke} {ns:List Int}
   (KX:K.In s₁.heap) (hns:s₁.heap.Ns mainGlobals mg) (hb:s₁.heap.Ns builtinsNs mb) (hbb:∀x:Str,x≠"__name__"->mb x=bootBuiltins x) (hlim:s₁.heap.NoLimit) (hg:s₁.gens=(List.toArray []))
   (ha:s₁.heap.get? a=some { cls:=.type "list",data:=.seq vs.toArray }) (hi:IntsAre vs ns) (hl:ns.length<=sizeLine) (hr:Room k callerA)
   (F:∀base:Heap,K.In base->base.Ns mainGlobals mg->FnOk P w K mg base CX k fa fd [x] sp) (hbind:∀(s:Kf) (u:Ke),BindsTo s fd #[[u],[]] [(x,u)])
   (hsp:∀H:Hp,lN H->aG K H a (ns.map V.int)->sp [↥a] H (λv _=>v=.bl true) λ_ _ _=>False)
   (hCX:∀H e s',CX [] H s₁ (λ_ _ _=>False) e s'->False) :
   codeAny (model P w) callerA (.call ↥fa #[[↥a],[]]) (λr s'=>r=.ok (.ret (.bool true))/\OldK s₁.heap s'.heap/\s'.os=s₁.os/\AllBare s'.gens) s₁:=by
 have rv:=BY hi;have lenV:=hi.length
 -- from an abstract heap in which nothing but the script may be tracked
 have core:∀H:Hp,lN H->aG K H a (ns.map V.int)->cB P w H s₁.heap->(∀b,H b≠none->b=a)->(H a≠none->K.lookup a=none) ->
     codeAny (model P w) callerA (.call ↥fa #[[↥a],[]]) (λr s'=>r=.ok (.ret (.bool true))/\OldK s₁.heap s'.heap/\s'.os=s₁.os/\AllBare s'.gens) s₁:=by
   intro H hO hS hok hA hK;have base_of:∀{b:Kg} {o:Obj},s₁.heap.get? b=⇑o->H b=none->(fY s₁.heap H).get? b=⇑o:=λe n=>Ge e n;have noA:∀{b:Kg} {o:Obj} {es:Array DictEntry} {ep:Nat},s₁.heap.get? b=⇑o->o.data=.dict es ep->H b=none:=λ{b o es ep} e d=>by
     cases q:H b with
     | none=>rfl
     | some u =>
       have e':b=a:=hA b (by rw[q]; simp);subst e';rw[ha] at e; cases e;have d':Data.seq vs.toArray _=Data.dict es ep:=d;cases d'
   have nsK:∀{b:Kg} {m:Str->Kd Ke},s₁.heap.Ns b m->(fY s₁.heap H).Ns b m:=λ{b m} z93_=>by let#[o,es,ep,e,d,r]:=z93_; show#[o,es,ep,base_of e (noA e d),d,r]
   have hKb:K.In (fY s₁.heap H):=λb o e=>base_of (KX b o e) (by
     cases q:H b with
     | none=>rfl
     | some u =>
       have e':b=a:=hA b (by rw[q]; simp);subst e';rw[hK (by rw[q]; simp)] at e; cases e)
   have hM:Mod K mg (fY s₁.heap H):=#[hKb,nsK hns,#[mb,nsK hb,hbb],by let#[mc,h1,h2]:=hlim; show#[mc,nsK h1,h2]]
   have e0:Env0 P w K mg (fY s₁.heap H) callerA [] s₁ H:=#[rfl,hM,λb o e=>Bj e,Nat.le_of_eq (Dx _ _),trivial,λb hb=>absurd (show b∈([]:List Kg) from hb) 0xA,hok,.of_eq hg]
   refine KO ((F _ hKb (nsK hns)).run callerA [] s₁ H #[[↥a],[]] [↥a] [↥a] _ _ hr e0 (hbind s₁ ↥a) (.cons rfl .nil) (hsp H hO hS)) λr s' h=>?_;cases r with
   | error e=>exact(hCX H e s' h).elim
   | ok fl =>
     cases fl with
     | next=>exact False.elim h
     | brk=>exact False.elim h
     | cont=>exact False.elim h
     | ret u =>
       let#[v,H',os,bare,un,hok',r',q]:=h;have q':v=.bl true:=q;subst q';obtain rfl:u=Value.bool true:=r';show#[rfl,OldK.of_keep λb o e=>?_,os,bare];cases q:H b with
       | none=>exact un.keep b o e q (by intro z; exact absurd (show b∈([]:List Kg) from z) 0xA) 0xA
       | some u =>
         rcases hO b with z|⟨ob,xs,z⟩
         . rw[q] at z; cases z
         . have z2:=un.frzs b ob _ z;let#[e1,_]:=hok b _ z;let#[e2,_]:=hok' b _ z2;rw[e] at e1; cases e1;exact e2
 cases hk:K.lookup a with
 | some o =>
   -- the script is one of the module's own objects
   have e:=KX a o hk;rw[ha] at e;cases e;refine core (λ_=>none) (λ_=>.inl rfl) (.inr #[_,vs.toArray,_,hk,15,by rw[HZ,lenV]; exact hl,by simpa using rv]) (λb u z=>by have z':(none:Kd HO)=⇑u:=z; cases z') (λb z=>absurd rfl z) λz=>absurd rfl z
 | none =>
   refine core (λb=>if b=a then ⇑(.frz { cls:=.type "list",data:=.seq vs.toArray } (.lst (ns.map V.int))) else none) (λb=>?_) (.inl (.inr #[{ cls:=.type "list",data:=.seq vs.toArray },HI rfl])) (λb u z=>?_) (λb z=>?_) λ_=>hk
   . by_cases hb:b=a
     . exact .inr #[4,HI hb]
     . exact .inl (Gu hb)
   . by_cases hb:b=a
     . have z':=(HI hb).symm.trans z;cases z';subst hb;show#[ha,by rw[Go]; exact hl,vs,_,rv,ha]
     . have z':=(Gu hb).symm.trans z;cases z'
   . by_cases hb:b=a
     . exact hb
     . exact absurd (Gu hb) z
noncomputable abbrev KOf {K:Kh} {h:Heap} (_:K.In h):Kh:=K
def yf {l:PySem.W.OpenLaw} {n k:Nat} {q:Program} {loose:List Str} {XP:(Str->Kd Ke)->Heap->Prop} {YP:World->Heap->Prop} {d:DefRec} {K:Params->Kh} {CX:World->eN} {sp:World->Sp} 
   (hn:l.most=⇑n) (hn2:n<=sizeLine) (hdf:d.params.defaults=[]) (hr:Room k callerA)
   (hY:∀(w:World) (h:Heap),YP w h->(K w.params).In h)
   (F:∀(w:World) (mg:Str->Kd Ke) (fa:Kg) (h:Heap),(K w.params).In h->h.Ns mainGlobals mg->mg d.name=⇑↥fa ->
     ∃fd:FuncData,(∀(s:Kf) (u:Ke),BindsTo s fd #[[u],[]] [(x,u)]) /\
       ∀base:Heap,(K w.params).In base->base.Ns mainGlobals mg->FnOk l.prog w (K w.params) mg base (CX w) k fa fd [x] (sp w))
   (hsp:∀(w:World) (H:Hp) (a:Kg) (ns:List Int),ns.length<=n->lN H->aG (K w.params) H a (ns.map V.int)->sp w [↥a] H (λv _=>v=.bl true) λ_ _ _=>False)
   (hCX:∀(w:World) (H:Hp) (s:Kf) (e:Ke) (s':Kf),CX w [] H s (λ_ _ _=>False) e s'->False) :
   PySem.W.WalkO q loose XP YP l.row.toRowW d [] (λf vs=>PySem.call f vs):=by
 refine Att.attach_call hn hdf λw s₀ s₁ mg mb fa o pm cd doc a vs ns G Y ho hd hcd hmg hobj hints hlen hg=>?_;have KX:=hY w _ Y;let#[fd,hb,hF]:=F w mg fa _ KX G.T.g hmg;exact BB KX G.T.g G.T.b G.T.builtins G.T.nolimit hg hobj hints (Hf hlen hn2) hr hF hb (λH hO hS=>hsp w H a ns hlen hO hS) λH e s'=>hCX w H s₁ e s'
def walk_ofK {l:PySem.W.OpenLaw} {n k:Nat} {q:Program} {loose:List Str} {XP:(Str->Kd Ke)->Heap->Prop} {YP:World->Heap->Prop} {d:DefRec} {K:Params->Kh} {CX:eN} {sp:Kh->Sp} 
   (hn:l.most=⇑n) (hn2:n<=sizeLine) (hdf:d.params.defaults=[]) (hr:Room k callerA)
   (hY:∀(w:World) (h:Heap),YP w h->(K w.params).In h)
   (F:∀(w:World) (mg:Str->Kd Ke) (fa:Kg) (h:Heap),(K w.params).In h->h.Ns mainGlobals mg->mg d.name=⇑↥fa ->
     ∃fd:FuncData,(∀(s:Kf) (u:Ke),BindsTo s fd #[[u],[]] [(x,u)]) /\
       ∀base:Heap,(K w.params).In base->base.Ns mainGlobals mg->FnOk l.prog w (K w.params) mg base CX k fa fd [x] (sp (K w.params)))
   (hsp:∀(K:Kh) (H:Hp) (a:Kg) (ns:List Int),ns.length<=n->lN H->aG K H a (ns.map V.int)->sp K [↥a] H (λv _=>v=.bl true) λ_ _ _=>False)
   (hCX:∀(H:Hp) (s:Kf) (e:Ke) (s':Kf),CX [] H s (λ_ _ _=>False) e s'->False) :
   PySem.W.WalkO q loose XP YP l.row.toRowW d [] (λf vs=>PySem.call f vs) :=
 yf (K:=K) (CX:=λ_=>CX) (sp:=λw=>sp (K w.params)) hn hn2 hdf hr hY F (λw H a ns h1 h2 h3=>hsp (K w.params) H a ns h1 h2 h3) λ_ H s e s'=>hCX H s e s'
abbrev cK (s:Stmt) (j:Nat):Stmt:=match s with
 | .ClassDef _ _ _ body _ _ _ _ _ _ _=>body.getD j (.Pass #[(0),(0),(0),(0)])
 | _=>.Pass #[(0),(0),(0),(0)]
abbrev dH (s:Stmt):Arguments:=match s with
 | .FunctionDef _ a _ _ _ _ _ _ _ _=>a
 | _=>{ posonlyargs:=[],args:=[],vararg:=none,kwonlyargs:=[],kw_defaults:=[],kwarg:=none,defaults:=[] }
abbrev aU (s:Stmt):List Stmt:=match s with
 | .FunctionDef _ _ b _ _ _ _ _ _ _=>b
 | _=>[]
abbrev ac (s:Stmt):Scope:=match s with
 | .FunctionDef _ _ _ _ _ _ sc _ _ _=>sc
 | _=>{ kind:=.function,names:=[],isGenerator:=false,isCoroutine:=false }
noncomputable abbrev CX0:eN:=λ_ _ _ _ _ _=>False
noncomputable abbrev E0:XK:=λ_ _ _=>False
def bN {X:Cx}:gG CX0 X E0:=λ_ _ _ _ _ _ _ h=>h.elim
structure Fun (K:W.Frag) (x qual:Str) (st:Stmt) (f:Addr) (fd:FuncData):Prop where
 ex:∃(oc:Value) (od:Option Addr) (kV doc pm:Value) (an:Option Addr) (cdv ct:Value) (osl:Array (Option Value)),
   fd=PySem.W.fnOf x qual (dH st) (aU st) (ac st) .none kV doc pm an cdv ct/\K.lookup f=⇑#[oc,od,.func fd,osl]/\PySem.W.codeIn K cdv qual=true
 kp:PySem.W.keepIn K ↥f=true
variable {qual:Str}
section
variable {P:Program} {w:World} {K:Kh} {mg:Str->Kd Ke} {base:Heap}
def Fun.ok {st:Stmt} {f:Kg} {fd:FuncData} {N ps:List Str} {k:Nat} {sp:Sp} (F:Fun K x qual st f fd) (S:FnScope N ps (ac st)) (len:∀vs H Q E,sp vs H Q E->vs.length=ps.length)
   (hbody:∀(cdv:Ke) (A:Around) (outer:List Env) (s:Kf) (H:Hp) (vs:List V) (Q:VK) (E:XK),Room k (A.deeper (envOfC qual (ac st) s.heap.objs.size f cdv))->sp vs H Q E ->
     ∃t,aV (j6 CX0 P w K mg base N qual (ac st) f cdv A outer s H E).nox (aU st) t/\t { nx:=λ_ H'=>Q .non H',rt:=Q } (fJ N vs) H):FnOk P w K mg base CX0 (k+1) f fd ps sp:=by
 let#[oc,od,kV,doc,pm,an,cdv,ct,osl,rfl,lk,hcd]:=F.ex;refine AX lk hcd S len λA outer s H vs Q E hr hsp=>?_;let#[t,h,q]:=hbody cdv A outer s H vs Q E hr hsp;show#[t,h.nox,q]
def Fun.binds {st:Stmt} {f:Kg} {fd:FuncData} {ps:List Str} (F:Fun K x qual st f fd)
   (h:∀(kV doc pm:Ke) (an:Kd Kg) (cdv ct:Ke) (us:List Ke),us.length=ps.length->bindArgs (PySem.W.fnOf x qual (dH st) (aU st) (ac st) .none kV doc pm an cdv ct) #[us,[]]=pure (ps.zip us)):dk K fd ps []:=by
 let#[oc,od,kV,doc,pm,an,cdv,ct,osl,rfl,lk,hcd]:=F.ex;exact .all (h kV doc pm an cdv ct)
def fq {st:Stmt} {f:Kg} {oc:Ke} {od an:Kd Kg} {osl:Array (Kd Ke)} {kV doc pm cdv ct:Ke} (l:K.lookup f=⇑#[oc,od,.func (PySem.W.fnOf x qual (dH st) (aU st) (ac st) .none kV doc pm an cdv ct),osl])
   (c:PySem.W.codeIn K cdv qual=true) (k:PySem.W.keepIn K ↥f=true):Fun K x qual st f (PySem.W.fnOf x qual (dH st) (aU st) (ac st) .none kV doc pm an cdv ct):=#[#[oc,od,kV,doc,pm,an,cdv,ct,osl,rfl,l,c],k]
end
def yO {n:Nat} (h:n<=1000):n<sizeLine:=Ib h #[]
section
variable {X:Cx}
def pv (i:Nat) {pos:Pos} (hN:X.N[i]?=⇑x:=by rfl) (hv:mD X.env.scope x:=by first|exact Or.inl rfl|exact Or.inr 0x3|exact Or.inr (Or.inr rfl)) (hd:(x==("__debug__":Str))=false:=by decide)
   (hcd:(x==("__classdict__":Str))=false:=by decide):PE X (.Name x pos) (tW i):=ET hN hv hd hcd
end
def gB {A B:Prop} (h:B):if false=true then A else B:=by rw[Gu Hd];exact h
def gw {A B:Prop} (h:A):if true=true then A else B:=by rw[HI rfl];exact h
def oZ {c A B:Prop} [Decidable c] (h1:c->A) (h2:¬ c->B):if c then A else B:=by
 by_cases h:c
 . rw[HI h];exact h1 h
 . rw[Gu h];exact h2 h
abbrev aB (H H':Hp):Prop:=∀b o,H b=⇑o->H' b=⇑o
def aB.refl (H:Hp):aB H H:=λ_ _ h=>h
def aB.trans {H H1 H2:Hp} (a:aB H H1) (b:aB H1 H2):aB H H2:=λc o h=>b c o (a c o h)
def aB.free {H H':Hp} (e:aB H H') {l:Kg} (h:H' l=Option.none):H l=Option.none:=by
 cases q:H l with
 | none=>rfl
 | some o =>
   rw[e l o q] at h;cases h
def aB.seq {K:Kh} {H H':Hp} {a:Kg} {xs:List V} (e:aB H H') (h:aG K H a xs):aG K H' a xs:=by
 rcases h with(h|⟨o,h⟩)|h
 . exact .inl (.inl (e _ _ h))
 . exact .inl (.inr #[o,e _ _ h])
 . exact .inr h
end L2
set_option maxHeartbeats 4000000
namespace L2
open PySem PySem.Spec PyProof.Rows
abbrev dh:List (Str×NameKind)->List (Str×Kg)->List (Str×Kg)->List (Str×Kg)
 | [],_,acc=>acc
 | (n,k)::r,cells,acc=>if k==.free then dh r cells ((n,(cells.lookup n).getD 0)::acc) else dh r cells acc
def si {env:Env}:∀(names:List (Str×NameKind)) (acc:List (Str×Kg)),(∀y∈names,y.2=.free->∃c,env.cells.lookup y.1=⇑c) ->
   (forIn names acc λx r=>(match x with|(name,kind)=>if(kind==NameKind.free)=true then do let a <- cellOf env name; pure (ForInStep.yield ((name,a)::r)) else pure (ForInStep.yield r):Sem (ForInStep (List (Str×Kg)))))=(pure (dh names env.cells acc):Sem (List (Str×Kg)))
 | [],acc,_=>rfl
 | (n,k)::r,acc,h=>by
   have ih:=λacc=>si (env:=env) r acc λy hy=>h y (Gz _ hy);rw[JI];unfold dh;cases hk:(k==NameKind.free) with
   | true =>
     let#[c,hc]:=h (n,k) HH ↑hk;have hc:env.cells.lookup n=⇑c:=hc;have e:cellOf env n=pure c:=by unfold cellOf; rw[hc]
     simp only[hk,if_true,e,pure_bind,hc,Option.getD_some];exact ih _
   | false =>
     simp only[hk,K7,if_false,pure_bind];exact ih _
variable {scope:Scope}
def Ej {env:Env} (h:∀y∈scope.names,y.2=.free->∃c,env.cells.lookup y.1=⇑c):closureFor scope env=pure (dh scope.names env.cells []):=by
 have e:=si (env:=env) scope.names [] h;unfold closureFor
 first
   | (rw[e]; rfl)
   | (simp only[e]; rfl)
   | exact(HY (λt=>t >>= λr=>pure r) e)
def ng {cells:List (Str×Kg)}:∀(names:List (Str×NameKind)) (acc:List (Str×Kg)),(∀y∈names,y.2=.free->∃c,cells.lookup y.1=⇑c)->(∀x c,acc.lookup x=⇑c->cells.lookup x=⇑c) ->
   ∀x c,(dh names cells acc).lookup x=⇑c->cells.lookup x=⇑c
 | [],acc,_,h2=>h2
 | (n,k)::r,acc,h,h2=>by
   unfold dh;cases hk:(k==NameKind.free) with
   | true =>
     rw[HI rfl];refine ng r _ (λy hy=>h y (Gz _ hy)) λx c e=>?_;let#[c',hc]:=h (n,k) HH ↑hk;have hc:cells.lookup n=⇑c':=hc;rw[Ik] at e;cases hx:x==n with
     | true =>
       have hx':x=n:=↑hx
       rw[hx] at e;rw[hx',hc];simpa [hc] using e
     | false =>
       rw[hx] at e;exact h2 x c e
   | false =>
     rw[Gu 0xA];exact ng r _ (λy hy=>h y (Gz _ hy)) h2
def mm {cells:List (Str×Kg)} {x:Str}:∀(names:List (Str×NameKind)) (acc:List (Str×Kg)),(acc.lookup x).isSome=true->((dh names cells acc).lookup x).isSome=true
 | [],_,h=>h
 | (n,k)::r,acc,h=>by
   unfold dh;split
   . refine mm r _ ?_;rw[Ik];cases x==n <;> simp [h]
   . exact mm r _ h
def oT {cells:List (Str×Kg)} {x:Str}:∀(names:List (Str×NameKind)) (acc:List (Str×Kg)),(x,NameKind.free)∈names->((dh names cells acc).lookup x).isSome=true
 | (n,k)::r,acc,h=>by
   unfold dh;rcases HM.mp h with e|e
   . cases e;rw[HI 0x1];exact mm r _ (by rw[Ik]; simp)
   . split
     . exact oT r _ e
     . exact oT r _ e
abbrev dF (X:Cx) (N':List Str) (scope:Scope) (C:Kg) (s:Kf) (H:Hp) (fp:List Kg):Cx :=
 { X with N:=N',s₀:=s,H₀:=H,env:=compEnvC scope (dh scope.names X.env.cells []) C X.env,outer:=X.stack,stack:=X.stack,ex:=fp,fn:=λ_=>false,pn:=[],xe:=λ_ _=>False }
abbrev cv (js:List (Kd Nat)) (σ:St):St:=js.map λo=>o.bind λj=>(σ[j]?).join
abbrev ju (scope osc:Scope) (N' N:List Str) (js:List (Kd Nat)):Bool :=
 (scope.kind==.function)&&(scope.names.all λy=>y.2 != .cell&&(if y.2==.local then scope.names.lookup y.1==some .local else true) &&
   (if y.2==.free then osc.names.lookup y.1==some .cell || osc.names.lookup y.1==some .free else true)) &&
 js.length==N'.length&&((js.zip N').all λq=>match q.1 with
   | none=>true
   | some j=>N[j]?==⇑q.2&&(osc.names.lookup q.2==some .cell || osc.names.lookup q.2==some .free)&&scope.names.lookup q.2==some .free)
structure CompOk (scope osc:Scope) (N' N:List Str) (js:List (Option Nat)):Prop where
 kind:scope.kind=.function
 nocell:∀y∈scope.names,y.2≠.cell
 names:∀y∈scope.names,y.2=.local->scope.names.lookup y.1=some .local
 free:∀y∈scope.names,y.2=.free->osc.names.lookup y.1=some .cell\/osc.names.lookup y.1=some .free
 len:js.length=N'.length
 slots:∀(i j:Nat) (x:Str),js[i]?=⇑⇑j->N'[i]?=⇑x->N[j]?=⇑x/\(osc.names.lookup x=some .cell\/osc.names.lookup x=some .free)/\scope.names.lookup x=some .free
variable {N':List Str} {js:List (Kd Nat)}
def BK {osc:Scope}{N:List Str}(h:ju scope osc N' N js=true):CompOk scope osc N' N js:=by
 unfold ju at h;rw[Ho,Ho,Ho,Jh,Jh] at h;obtain⟨⟨⟨h1,h2⟩,h3⟩,h4⟩:=h;show#[by cases hk:scope.kind <;> first|rfl|(rw[hk] at h1; cases h1),λy hy e=>?_,λy hy e=>?_,λy hy e=>?_,by simpa using h3,λi j x e1 e2=>?_]
 . have q:=h2 y hy;rw[e] at q;simp at q
 . have q:=h2 y hy;rw[Ho,Ho] at q;have q2:=q.1.2;rw[e] at q2;simpa using q2
 . have q:=h2 y hy;rw[Ho,Ho] at q;have q2:=q.2;rw[e] at q2;simpa using q2
 . have hm:(⇑j,x)∈js.zip N':=by refine He (i:=i) ?_;rw[Io];show#[e1,e2]
   have q:=h4 _ hm;simp only[Ho,Ka,Kb] at q;show#[q.1.1,q.1.2,q.2]
def rO {env:Env}:∀(names:List (Str×NameKind)) (x:Str),names.lookup x=some .free ->
   ((names.map λ(n,k)=>if(k==NameKind.free&&env.scope.kind==.function&&env.kindOf n==some .cell) then(n,NameKind.cell) else(n,k)).lookup x=some .cell \/
     (names.map λ(n,k)=>if(k==NameKind.free&&env.scope.kind==.function&&env.kindOf n==some .cell) then(n,NameKind.cell) else(n,k)).lookup x=some .free)
 | [],x,h=>by simp at h
 | (n,k)::r,x,h=>by
   have ih:=rO (env:=env) r x;rw[Hn];rw[Ik] at h;by_cases hb:(k==NameKind.free&&env.scope.kind==.function&&env.kindOf n==some .cell)=true
   . have e1:(if(k==NameKind.free&&env.scope.kind==.function&&env.kindOf n==some .cell)=true then(n,NameKind.cell) else(n,k))=(n,NameKind.cell):=HI hb;simp only[e1,Ik];cases hx:x==n with
     | true=>exact .inl rfl
     | false =>
       rw[hx] at h;exact ih h
   . have e1:(if(k==NameKind.free&&env.scope.kind==.function&&env.kindOf n==some .cell)=true then(n,NameKind.cell) else(n,k))=(n,k):=Gu hb;simp only[e1,Ik];cases hx:x==n with
     | true =>
       rw[hx] at h;exact .inr h
     | false =>
       rw[hx] at h;exact ih h
def sK {scope:Scope} {env:Env}:∀(names:List (Str×NameKind)) (x:Str),(∀y∈names,y.2≠.cell) ->
   ((names.map λ(n,k)=>if(k==NameKind.free&&env.scope.kind==.function&&env.kindOf n==some .cell) then(n,NameKind.cell) else(n,k)).lookup x=some .cell \/
     (names.map λ(n,k)=>if(k==NameKind.free&&env.scope.kind==.function&&env.kindOf n==some .cell) then(n,NameKind.cell) else(n,k)).lookup x=some .free)->(x,NameKind.free)∈names
 | [],x,_,h=>by simp at h
 | (n,k)::r,x,hc,h=>by
   have ih:=sK (scope:=scope) (env:=env) r x λy hy=>hc y (Gz _ hy);rw[Hn] at h;by_cases hb:(k==NameKind.free&&env.scope.kind==.function&&env.kindOf n==some .cell)=true
   . have hkf:k=.free:=by rw[Ho,Ho] at hb;simpa using hb.1.1
     have e1:(if(k==NameKind.free&&env.scope.kind==.function&&env.kindOf n==some .cell)=true then(n,NameKind.cell) else(n,k))=(n,NameKind.cell):=HI hb;simp only[e1,Ik] at h;cases hx:x==n with
     | true =>
       have hx':x=n:=↑hx
       rw[hx',hkf];exact HH
     | false =>
       rw[hx] at h;exact Gz _ (ih h)
   . have e1:(if(k==NameKind.free&&env.scope.kind==.function&&env.kindOf n==some .cell)=true then(n,NameKind.cell) else(n,k))=(n,k):=Gu hb;simp only[e1,Ik] at h;cases hx:x==n with
     | true =>
       have hx':x=n:=↑hx
       rw[hx] at h;rcases h with h|h
       . exact absurd (Option.some.inj h) (hc (n,k) HH)
       . have hkf:k=.free:=Option.some.inj h;rw[hx',hkf];exact HH
     | false =>
       rw[hx] at h;exact Gz _ (ih h)
variable {H:Hp}
def Un.sameBut {fs ex:List Kg} {H':Hp}{h h1 h2:Heap} {C:Kg} (u:Un fs ex H H' h h1) (hs:Heap.SameBut C h1 h2) (hC:h.objs.size<=C):Un fs ex H H' h h2:=by
 have ne:∀b o,h.get? b=⇑o->b≠C:=λb o e=>Hu (Hi (HU e) hC);show#[λb o e n hb hx=>(hs.2 b (ne b o e))\(u.keep b o e n hb hx),λb o e n hb hx=>?_,u.free,λb o e hx=>?_,u.tups,u.frzs,u.tbls]
 . let#[sl,q]:=u.slot b o e n hb hx;show#[sl,(hs.2 b (ne b o e))\q]
 . let#[o',q]:=u.there b o e hx;show#[o',(hs.2 b (ne b o e))\q]
def iX {α:Type} {t:Sem α} {Q Q':α->Kf->Prop} {M:Model} {A:Around} {E:Ke->Kf->Prop} {s:Kf} (h:wpAny M A t Q (λ_ _=>False) s) (hQ:∀a s,Q a s->Q' a s):wpAny M A t Q' E s:=JR h hQ λ_ _ f=>f.elim
variable {elt target iter:Expr} {ifs:List Expr} {pos:Pos}
def EX {prog:Program} {w:World} {A:Around} {R:Result->Kf->Prop} {s:Kf} {it acc:Ke} {env:Env} (I:Nat->Kf->Prop)
   (turn:∀n s,I n s->wpAny (model prog w) A (pyNext it) (λr s₁=>match r with
     | none=>R (.ok .next) s₁
     | some v=>wpAny (model prog w) A (letOwnedTupleGo target it v) (λ_ s₂=>wpAny (model prog w) A (assign target env v) (λ_ s₃ =>
         wpAny (model prog w) A (forIn ifs true λc r=>if r=true then do let ok <- isTrue c env (eval c env); pure (ForInStep.yield ok) else pure (ForInStep.yield r)) (λok s₄ =>
           if ok=true then wpAny (model prog w) A (eval elt env) (λx s₅ =>
             wpAny (model prog w) A (call (.builtin "list.append") [acc,x]) (λ_ s₆=>∃m,m<n/\I m s₆) (λ_ _=>False) s₅) (λ_ _=>False) s₄
           else ∃m,m<n/\I m s₄) (λ_ _=>False) s₃) (λ_ _=>False) s₂) (λ_ _=>False) s₁) (λ_ _=>False) s)
   (n:Nat) (h:I n s):codeAny (model prog w) A (.compLoop (.ListComp elt [#[target,iter,ifs,(0)]] scope pos) 0 it acc env) R s:=by
 refine codeAny_loop rfl I (λn s hI=>?_) n h;show wpAny _ A ((compTurn (.ListComp elt [#[target,iter,ifs,(0)]] scope pos) 0 it acc env).onRaise (λx=>do noteFrame x env; theTreesLotGoes x)) _ _ s;refine wpAny_noted ?_;rw[compTurn_list];refine Gp (KA (Gp (iX (turn n s hI) λr s₁ h₁=>?_)));cases r with
 | none=>exact HL h₁
 | some v =>
   refine Gp (iX h₁ λ_ s₂ h₂=>Gp (iX h₂ λ_ s₃ h₃=>Gp (iX h₃ λok s₄ h₄=>?_)));cases ok with
   | false=>exact HL #[rfl,h₄]
   | true =>
     exact Gp (Gp (iX h₄ λx s₅ h₅=>Gp (iX h₅ λ_ s₆ h₆=>HL (HL #[rfl,h₆]))))
abbrev jM (X:Cx) (ifs:List Expr) (t:TT):Prop :=
 ∀(pins:List (Kg×Obj)) (s:Kf) (σ:St) (H:Hp) (Q:Bool->Hp->Prop),Inv X pins σ H s->t σ H Q ->
   wpAny 0x8 X.A (forIn ifs true λc r=>if r=true then do let ok <- isTrue c X.env (eval c X.env); pure (ForInStep.yield ok) else pure (ForInStep.yield r)) (TP X pins σ Q) X.xe s
abbrev FW:TT:=λ_ H Q=>Q true H
variable {X:Cx}
def gS :jM X [] FW:=λ_ _ _ H _ I h=>wpAny_tests_nil #[H,I,h]
def BL {c:Expr} {t:TT} (h:PT X c t):jM X [c] t:=λpins s σ H Q I hq=>wpAny_tests_one (h pins s σ H Q I hq)
abbrev jL (js:List (Kd Nat)) (g:TG):Prop:=∀(x:V) (σ:St) (H:Hp) (Q:St->Hp->Prop),σ.length=js.length->g x σ H Q->g x σ H λσ' H'=>Q σ' H'/\σ'.length=js.length/\∀(i j:Nat),js[i]?=⇑⇑j->σ'[i]?=σ[i]?
abbrev mH (js:List (Kd Nat)) (g:eK):Prop:=∀(x:List V) (σ:St) (H:Hp) (Q:St->Hp->Prop),σ.length=js.length->g x σ H Q->∀Q':St->Hp->Prop,(∀σ' H',Q σ' H'->σ'.length=js.length->(∀(i j:Nat),js[i]?=⇑⇑j->σ'[i]?=σ[i]?)->Q' σ' H')->g x σ H Q'
def gH {i:Nat} (h:js[i]?=⇑none:=by rfl):jL js (fe i):=λx σ H Q hl q=>#[q,by rw[Jt]; exact hl,λk j e=>by rw[J4];intro z;subst z;rw[h] at e;cases e]
def AO :mH js tJ:=λx σ H Q hl z94_ Q' k=>by let#[e,q]:=z94_; show#[e,k _ _ q hl λ_ _ _=>rfl]
def ki {i:Nat} {u:eK} (hu:mH js u) (h:js[i]?=⇑none:=by rfl):mH js (qS (fe i) u):=λx σ H Q hl ⟨v,r,e,q⟩ Q' k=>#[v,r,e,by
 have hl':(σ.set i ⇑v).length=js.length:=by rw[Jt]; exact hl
 exact hu r (σ.set i ⇑v) H Q hl' q _ λσ' H' z1 z2 z3=>k σ' H' z1 z2 λn j e=>(z3 n j e)\(by rw[J4];intro z;subst z;rw[h] at e;cases e)]
def E' {K:Kh} {n:Nat} {t:eK} (h:mH js t):jL js (oW K n t):=λx σ H Q hl z96_=>by let#[a,xs,e,sq,l,q]:=z96_; show#[a,xs,e,sq,l,h xs σ H Q hl q _ λσ' H' z1 z2 z3=>#[z1,z2,z3]]
abbrev jT (J:It) (g:TG) (tif:TT) (te:TE) (js:List (Kd Nat)) (σ:St) (Q:VK) (p:Kg) (H1:Hp):Prop :=
 ∃W:Nat->Nat->List V->Hp->Prop,(∃m,W 0 m [] (upd H1 p (.lst [])))/\∀i m acc H2,W i m acc H2->H2 p=⇑(.lst acc) /\
   ((J.stop i H2/\Q ↥p H2)\/(J.go i H2/\acc.length<sizeLine/\∃N:List V->Hp->Prop,(∀acc' H',N acc' H'->∃m',m'<m/\W (i+1) m' acc' H') /\
     ∀x H',J.yld i H2 x H'->g x (cv js σ) H' λσ2 H3=>tif σ2 H3 λc H4 =>
       if c=true then te σ2 H4 λy H5=>H5 p=⇑(.lst acc)/\N (acc++[y]) (upd H5 p (.lst (acc++[y]))) else N acc H4))
abbrev oQ (wi:TI) (g:TG) (tif:TT) (te:TE) (js:List (Kd Nat)):TE:=λσ H Q=>wi σ H λJ H1=>∀p,H1 p=none->jT J g tif te js σ Q p H1
variable {wi:TI} {tif:TT} {te:TE}
def tt {use:Kd (Ke->Sem Unit)} {Q':Ke->Kf->Prop} {Q:VK} {pins:List (Kg×Obj)} {s:Kf} {σ:St} {g:TG} (hok:ju scope X.env.scope N' X.N js=true) (hc:X.calm=true)
   (hi:PI X target iter wi) (ho:jL js g) (hg:∀C s H fp,PG (dF X N' scope C s H fp) target g) (hif:∀C s H fp,jM (dF X N' scope C s H fp) ifs tif) (he:∀C s H fp,PE (dF X N' scope C s H fp) elt te)
   (hs:∀x,foldedSetIterable iter X.env x=pure x) (I:Inv X pins σ H s) (h:oQ wi g tif te js σ H Q)
   (hfin:∀(s2:Kf) (H2:Hp) (fp:List Kg) (C:Kg),Inv X pins σ H2 s2->(∀b∈fp,eZ X pins H2 b)->s2.heap.objs.size<=C->∀(σ':St) (H':Hp) (s':Kf),Inv (dF X N' scope C s2 H2 fp) [] σ' H' s'->Q ↥s2.heap.objs.size H' ->
     compPost 0x8 X.A X.xe use Q' ↥s2.heap.objs.size C (.ok .next) s') :
   wpAny 0x8 X.A (comprehension (.ListComp elt [#[target,iter,ifs,(0)]] scope pos) scope X.env (firstIterPos [#[target,iter,ifs,(0)]] pos) (newList []) false (eval iter X.env) use) Q' X.xe s:=by
 have O:=BK hok;have hfr:∀y∈scope.names,y.2=.free->∃c,X.env.cells.lookup y.1=⇑c:=λy hy e=>I.ok.has y.1 (O.free y hy e);refine wpAny_comprehension_free (use:=use) rfl hs (Ej hfr) O.kind O.names (aW (hi pins s σ H _ I h) λv s1 h1=>aW h1 λitv s2 h2=>?_);let#[it,fp,tn,J,H2,e,I2,T,st2,f2,hq]:=h2;subst e;have hf0:H2 s2.heap.objs.size=none:=I2.hok.fresh (Gw _);obtain⟨W,⟨m0,w0⟩,turn⟩:=hq _ hf0;refine Iu (wpAny_newFunctionEnv O.nocell (by intro y hy; simp at hy) (λh₁ hns₁ hsb₁=>?_) O.kind);dsimp only at hns₁ hsb₁ ⊢;generalize hH2:s2.heap.push { cls:=.type "list",dict:=none,data:=.seq ([]:List Ke).toArray }=B at hns₁ hsb₁ ⊢;have hC:B.objs.size=s2.heap.objs.size+1:=by rw[<- hH2,IM]
 have hCle:s2.heap.objs.size<=B.objs.size:=by rw[hC]; exact JF _
 have old:∀b o,s2.heap.get? b=⇑o->h₁.get? b=⇑o:=λb o e=>hsb₁.extBut b o (by rw[hC]; exact Hu (Nat.lt_succ_of_lt (HU e))) (Gr _ (hH2 ▸ Gr _ e));have hDC:s2.heap.objs.size≠B.objs.size:=by rw[hC]; exact Hu (Iw _)
 have hacc:h₁.get? s2.heap.objs.size=some { cls:=.type "list",dict:=none,data:=.seq ([]:List Ke).toArray }:=hsb₁.extBut _ _ hDC (Gr _ (hH2 ▸ HR _ rfl));have fpO:∀b∈fp,b<s2.heap.objs.size:=λb hb=>by let#[o,e,_]:=T.obj 0 _ st2 b hb;exact HU e
 have sub:∀x c,(dh scope.names X.env.cells []).lookup x=⇑c->X.env.cells.lookup x=⇑c:=ng scope.names [] hfr (λx c e=>by cases e);have hasC:∀x,((relabel scope X.env).names.lookup x=some .cell\/(relabel scope X.env).names.lookup x=some .free)->∃c,(dh scope.names X.env.cells []).lookup x=⇑c:=λx hx =>
   JK.mp (oT scope.names [] (sK (scope:=scope) (env:=X.env) scope.names x O.nocell hx))
 -- the block's context at its begin
 have IY:∀t,Inv (dF X N' scope B.objs.size s2 H2 fp) [] (cv js σ) (upd H2 s2.heap.objs.size (.lst [])) { s2 with heap:=h₁,toks:=t }:=by
   intro t;show#[#[I2.ok.mod,O.kind,I2.ok.glob,I2.ok.blt,hCle,λx y c h1 h2=>I2.ok.inj x y c (sub x c h1) (sub y c h2),λx hx=>hasC x hx,λx c h=>(by cases h),I2.ok.hd,I2.ok.frames,.inl rfl,λb hb=>#[Hu (Hi (fpO b hb) hCle),λx c e=>(f2 b hb).2.2.2.2.1 x c (sub x c e)],
     I2.bs,Hf I2.ok.bsz I2.sz,λb o e hb=>?_,λb hb z=>?_,I2.stack,I2.stkFree],rfl,I2.bare,Un.laid old (Gw _) hf0,#[_,hns₁,λi x v e1 e2 e3=>?_],λx c e=>?_,?_,λx c e=>?_,λp hp=>absurd (show p∈([]:List (Kg×Obj)) from hp) 0xA,?_,?_]
   . rcases (f2 b hb).2.2.2.1 with z|z
     . exact I2.ok.noex b o e z
     . exact absurd (Hi (Hi (HU e) I2.ok.bsz) z) (ID _)
   . rcases HM.mp (I2.stkSub b z) with q|q
     . exact(f2 b hb).2.1 q
     . exact(f2 b hb).2.2.1 q
   . have e1:N'[i]?=⇑x:=e1;unfold cv at e2;rw[HV] at e2;cases q:js[i]? with
     | none=>rw[q] at e2; cases e2
     | some o =>
       rw[q] at e2;cases o with
       | none=>cases e2
       | some j =>
         have e2:(σ[j]?).join=⇑v:=↑e2
         have e2':σ[j]?=⇑⇑v:=by
           cases z:σ[j]? with
           | none=>rw[z] at e2; cases e2
           | some a=>rw[z] at e2; cases a with
             | none=>cases e2
             | some a=>cases e2; rfl
         let#[hN,hk,hsf]:=O.slots i j x q e1;let#[m,hn,hl]:=I2.loc;let#[u,r,l]:=hl j x v hN e2' (.inr hk);show#[u,r,?_];have hkX:X.env.kindOf x=some .cell\/X.env.kindOf x=some .free:=hk;rcases l with⟨k,_⟩|⟨k,c,hc',hcell⟩
         . rcases hkX with z|z
           . rw[k] at z; cases z
           . rw[k] at z; cases z
         . have hky:(relabel scope X.env).names.lookup x=some .cell\/(relabel scope X.env).names.lookup x=some .free:=rO (env:=X.env) scope.names x hsf;let#[c2,hc2]:=hasC x hky;have:c2=c:=by have:=sub x c2 hc2;rw[hc'] at this;exact(Option.some.inj this).symm
           subst this;let#[ob,ho,hd]:=hcell;exact .inr #[hky,c2,hc2,ob,old _ _ ho,hd]
   . let#[v,ob,ho,hd]:=I2.cell x c (sub x c e);show#[v,ob,old _ _ ho,hd]
   . show upd H2 s2.heap.objs.size (.lst []) B.objs.size=none;rw[aJ (Ne.symm hDC)];exact I2.hok.fresh hCle
   . let#[v,ob,ho,hd]:=I2.cell x c (sub x c e);rw[aJ (Hu (HU ho))];exact I2.freeC x c (sub x c e)
   . exact I2.hok.laid old (Gw _) #[Hj _,[],(0),.nil,hacc]
   . unfold cv;rw[Go];exact O.len
 have hcl:(cv js σ).length=js.length:=by unfold cv; rw[Go]
 have fin:∀{σ':St} {H':Hp} {s':Kf},Inv (dF X N' scope B.objs.size s2 H2 fp) [] σ' H' s'->Q ↥s2.heap.objs.size H'->compPost 0x8 X.A X.xe use Q' ↥s2.heap.objs.size B.objs.size (.ok .next) s' :=
   λ{σ' H' s'} J q=>hfin s2 H2 fp B.objs.size I2 f2 hCle σ' H' s' J q
 have loop:∀t,codeAny 0x8 X.A (.compLoop (.ListComp elt [⟨target,iter,ifs,0⟩] scope pos) 0 ↥it ↥s2.heap.objs.size (compEnvC scope (dh scope.names X.env.cells []) B.objs.size X.env))
     (compPost 0x8 X.A X.xe use Q' ↥s2.heap.objs.size B.objs.size) { s2 with heap:=h₁,toks:=t }:=by
   intro t;have stat:∀{H':Hp},(∀b∈fp,H' b=none)->∀b∈fp,eZ (dF X N' scope B.objs.size s2 H2 fp) [] H' b:=λhn b hb =>
     #[hn b hb,Hu (Hi (fpO b hb) hCle),(IY t).ok.exfs b hb,.inl hb,λx c e=>((IY t).ok.exf b hb).2 x c e,λp hp=>absurd (show p∈([]:List (Kg×Obj)) from hp) 0xA]
   refine EX (λn s'=>∃i acc H',Inv (dF X N' scope B.objs.size s2 H2 fp) [] (cv js σ) H' s'/\tn i s'.heap/\(∀b∈fp,H' b=none)/\W i n acc H') ?_ m0
     #[(0),[],_,IY t,T.keep 0 _ _ st2 (λb _ o e=>old b o e),λb hb=>by rw[aJ (Hu (fpO b hb))]; exact(f2 b hb).1,w0]
   rintro n s3 ⟨i,acc,H3,I3,st3,fr3,w3⟩;let#[hD,turn]:=turn i n acc H3 w3;rcases turn with⟨stop,qn⟩|⟨go,hlen,N,hN,step⟩
   . refine aW (T.done (dF X N' scope B.objs.size s2 H2 fp) rfl rfl rfl hc i [] s3 (cv js σ) H3 (λ_ _=>False) I3 (stat fr3) st3 stop) λr s4 z97_=>?_;let#[hr,I4]:=z97_;subst hr;exact fin I4 qn
   . refine aW (T.item (dF X N' scope B.objs.size s2 H2 fp) rfl rfl rfl hc i [] s3 (cv js σ) H3 (λ_ _=>False) I3 (stat fr3) st3 go) λr s4 z98_=>?_;let#[u,hr,h4]:=z98_;subst hr;refine aW h4 λ_ s5 z99_=>?_;let#[x,H5,I5,r5,y5,st5,fr5]:=z99_;have I5':=I5.pinned (stat fr5) (T.obj _ _ st5);refine aW (hg _ _ _ _ _ s5 (cv js σ) H5 x u _ I5' r5 (ho x (cv js σ) H5 _ hcl (step x H5 y5))) λ_ s6 z100_=>?_;let#[σ6,H6,I6,q6,hl6,hk6]:=z100_;refine aW (hif _ _ _ _ _ s6 σ6 H6 _ I6 q6) λok s7 z101_=>?_;let#[H7,I7,q7]:=z101_;have again:∀{H8:Hp} {acc8:List V} {s8:Kf},Inv (dF X N' scope B.objs.size s2 H2 fp) ([]++je fp s5.heap) σ6 H8 s8->N acc8 H8 ->
         ∃m,m<n/\∃i acc H',Inv (dF X N' scope B.objs.size s2 H2 fp) [] (cv js σ) H' s8/\tn i s8.heap/\(∀b∈fp,H' b=none)/\W i m acc H':=by
       intro H8 acc8 s8 I8 n8;let#[m',hm,w8]:=hN acc8 H8 n8;show#[m',hm,i+1,acc8,H8,?_,T.keep _ _ _ st5 λb hb o e=>(I8.pin (b,o) (HS _ (HS _ (lZ hb e)))).1,λb hb=>?_,w8]
       . refine Inv.weak I8.unpinned (by rw[hl6,hcl]) λk v e=>?_;have e':=e;unfold cv at e;rw[HV] at e;cases q:js[k]? with
         | none=>rw[q] at e; cases e
         | some o =>
           cases o with
           | none=>rw[q] at e; cases e
           | some j=>rw[hk6 k j q]; exact e'
       . let#[o,e,d]:=T.obj _ _ st5 b hb;exact(I8.pin (b,o) (HS _ (HS _ (lZ hb e)))).2.1
     cases ok with
     | false=>exact again I7 q7
     | true =>
       refine aW (he _ _ _ _ _ s7 σ6 H7 _ I7 q7) λy s8 z102_=>?_;let#[yv,H8,I8,r8,hD8,q8]:=z102_;refine aW (eX _ s8 σ6 H8 ↥s2.heap.objs.size [yv] ↥s2.heap.objs.size [y] (λ_ H9=>N (acc++[yv]) H9) I8 rfl (.cons r8 .nil) #[_,acc,yv,7,hD8,hlen,q8]) λ_ s9 z103_=>?_;let#[_,H9,I9,_,q9]:=z103_;exact again I9 q9
 exact codeAny_compStart_list (loop _) (T.self X.A 0 _ _ _ (T.keep 0 _ _ st2 (λb _ o e=>old b o e)) (loop _))
def j4 {g:TG} (hok:ju scope X.env.scope N' X.N js=true) (hc:X.calm=true)
   (hi:PI X target iter wi) (ho:jL js g) (hg:∀C s H fp,PG (dF X N' scope C s H fp) target g) (hif:∀C s H fp,jM (dF X N' scope C s H fp) ifs tif) (he:∀C s H fp,PE (dF X N' scope C s H fp) elt te)
   (hs:∀x,foldedSetIterable iter X.env x=pure x:=by intro _; rfl):PE X (.ListComp elt [#[target,iter,ifs,(0)]] scope pos) (oQ wi g tif te js):=by
 intro pins s σ H Q I h;rw[eval_ListComp];refine tt (use:=none) hok hc hi ho hg hif he hs I h λs2 H2 fp C I2 f2 hCle σ' H' s' J q=>?_;let#[m,hn,_]:=J.loc;show#[m,hn,λh' hs'=>#[↥s2.heap.objs.size,H',?_,rfl,q]];refine I2.call' (s':={ s' with heap:=h' }) (ch:=fp) J.os (J.base.sameBut hs' hCle) (λb ob e=>?_) J.bare λb hb=>#[(f2 b hb).2.2.2.1,(f2 b hb).2.1,(f2 b hb).2.2.2.2.1,(f2 b hb).2.2.2.2.2]
 refine(J.hok b ob e).stay (λc w' hc q=>(hs'.2 c ?_)\q) (λ_ q=>q) λ_ _ q=>q;have hfree:H' C=none:=J.free;intro hcC;rw[hcC] at hc;rcases hc with z|z
 . rw[<- z,hfree] at e; cases e
 . rw[hfree] at z; cases z
def nE {i:Nat} {y:Str} {py spos:Pos}{g:TG} (hN:X.N.Nodup) (hi':X.N[i]?=⇑y) (hx:jg X.env.scope y)
   (hok:ju scope X.env.scope N' X.N js=true) (hc:X.calm=true)
   (hi:PI X target iter wi) (ho:jL js g) (hg:∀C s H fp,PG (dF X N' scope C s H fp) target g) (hif:∀C s H fp,jM (dF X N' scope C s H fp) ifs tif) (he:∀C s H fp,PE (dF X N' scope C s H fp) elt te)
   (hsw:swapsWith (.ListComp elt [#[target,iter,ifs,(0)]] scope pos) ⇑(.Name y py) spos.line X.env=pure true)
   (hs:∀x,foldedSetIterable iter X.env x=pure x:=by intro _; rfl) (hf:X.fn y=true\/X.env.scope.names.lookup y=some .local:=by first|exact .inl rfl|exact .inr rfl|assumption) :
   PS X (.Assign [.Name y py] (.ListComp elt [#[target,iter,ifs,(0)]] scope pos) spos) (nD (oQ wi g tif te js) (fe i)):=by
 intro pins s σ H D I h;rw[exec_Assign_Name_used _ _ _ _ hsw];refine Gp (KA (Gp ?_));show wpAny _ X.A (do let _ <- comprehension (.ListComp elt [⟨target,iter,ifs,0⟩] scope pos) scope X.env _ (newList []) false (eval iter X.env) ⇑(assign (.Name y py) X.env)) _ _ s;refine Gp (aW (tt (use:=⇑(assign (.Name y py) X.env)) (Q':=λ_ s'=>SP X pins D .next s') hok hc hi ho hg hif he hs I h λs2 H2 fp C I2 f2 hCle σ' H' s' J q=>?_) λ_ s' q=>?_)
 . let#[m,hn,_]:=J.loc;have I3:Inv X pins σ H' s':=I2.call' (ch:=fp) J.os J.base J.hok J.bare λb hb=>#[(f2 b hb).2.2.2.1,(f2 b hb).2.1,(f2 b hb).2.2.2.2.1,(f2 b hb).2.2.2.2.2]
   have hCL:C≠X.env.locals:=λz=>absurd (Hi I2.lt hCle) (by rw[z]; exact ID _);have hCc:∀x c,X.env.cells.lookup x=⇑c->c≠C:=λx c e z=>by let#[v,ob,ho,_]:=I2.cell x c e;exact absurd (Hi (HU ho) hCle) (by rw[z]; exact ID _)
   have hCp:∀p∈X.pn++pins,p.1≠C:=λp hp z=>by have e:=(I2.pin p hp).1;exact absurd (Hi (HU e) hCle) (by rw[z]; exact ID _)
   show wpAny _ X.A (assign (.Name y py) X.env ↥s2.heap.objs.size) _ _ s';refine wpAny_assign_Name (tU I3 hN hi' hx (v:=↥s2.heap.objs.size) rfl (λs'' I4 z104_=>?_) hf);let#[a,hsb,ha]:=z104_;have hna:C≠a:=by
     rcases ha with z|z
     . rw[z]; exact hCL
     . exact(hCc _ _ z).symm
   show#[m,hn.sameBut hsb hna,λh' hs'=>#[_,H',?_,q]];exact I4.turned (t':=s''.toks) (h':=h') (it:=C) (λb o hb e=>(hs'.2 b hb)\e) J.free hCL (.inr (Hf I2.sz hCle)) hCc hCp
 . exact HL (HL q)
variable {p:Kg}
section
variable {g:TG} {tif:TT} {te:TE} {js:List (Kd Nat)} {σ:St} {H:Hp} {Q:VK}
abbrev qL (g:TG) (tif:TT) (te:TE) (σ:St) (p:Kg) (acc:List V) (N:List V->Hp->Prop) (x:V) (H:Hp):Prop :=
 g x σ H λσ2 H3=>tif σ2 H3 λc H4=>if c=true then te σ2 H4 λy H5=>H5 p=⇑(.lst acc)/\N (acc++[y]) (upd H5 p (.lst (acc++[y]))) else N acc H4
def oq {K:Kh} {a:Kg} {xs:List V} (hn:xs.length<=1000000) (Pv:Nat->List V->Hp->Prop) (h0:Pv 0 [] (upd H p (.lst [])))
   (hl:∀i acc H2,i<=xs.length->Pv i acc H2->H2 p=⇑(.lst acc)/\acc.length<=i/\aG K H2 a xs)
   (hs:∀i x acc H2,xs[i]?=⇑x->Pv i acc H2->qL g tif te (cv js σ) p acc (Pv (i+1)) x H2) (hd:∀acc H2,Pv xs.length acc H2->Q ↥p H2) :
   jT (gv K a) g tif te js σ Q p H:=by
 show#[λi m acc H=>m=xs.length - i/\i<=xs.length/\Pv i acc H,#[xs.length,by simp,Hj _,h0],?_];rintro i m acc H2 ⟨rfl,hi,q⟩;let#[q1,q2,q3]:=hl i acc H2 hi q;show#[q1,?_];by_cases hlt:i<xs.length
 . refine .inr #[#[xs,xs[i],q3,by simp [hlt]],?_,Pv (i+1),λacc' H' p'=>#[xs.length - (i+1),∅,rfl,hlt,p'],λx H' y=>?_]
   . have:(1000000:Nat)<sizeLine:=by decide
     lia
   . let#[e,y]:=y;subst e;exact hs i x acc _ (y xs q3) q
 . have e:i=xs.length:=by lia
   subst e;exact .inl #[#[xs,q3,Gw _],hd acc H2 q]
def qv {K:Kh} {a:Kg} {xs:List V} (hn:xs.length<=1000000) (Pv:Nat->List V->Hp->Prop) (h0:Pv 0 [] (upd H p (.lst [])))
   (hl:∀i acc H2,i<=xs.length->Pv i acc H2->H2 p=⇑(.lst acc)/\acc.length<=i/\aN K H2 a xs)
   (hs:∀i x acc H2,xs[i]?=⇑x->Pv i acc H2->qL g tif te (cv js σ) p acc (Pv (i+1)) x H2) (hd:∀acc H2,Pv xs.length acc H2->Q ↥p H2) :
   jT (hX K a) g tif te js σ Q p H:=by
 show#[λi m acc H=>m=xs.length - i/\i<=xs.length/\Pv i acc H,#[xs.length,by simp,Hj _,h0],?_];rintro i m acc H2 ⟨rfl,hi,q⟩;let#[q1,q2,q3]:=hl i acc H2 hi q;show#[q1,?_];by_cases hlt:i<xs.length
 . refine .inr #[#[xs,xs[i],q3,by simp [hlt]],?_,Pv (i+1),λacc' H' p'=>#[xs.length - (i+1),∅,rfl,hlt,p'],λx H' y=>?_]
   . have:(1000000:Nat)<sizeLine:=by decide
     lia
   . let#[e,y]:=y;subst e;exact hs i x acc _ (y xs q3) q
 . have e:i=xs.length:=by lia
   subst e;exact .inl #[#[xs,q3,Gw _],hd acc H2 q]
end
section
variable {X:Cx}
def gF:bh X (.builtin "isinstance") (λxs H Q=>∃x c t b,xs=[x,.ty c]/\TyOf X.K H x t/\PySem.W.kitOne X.K t (.type c)=⇑b/\Q (.bl b) H):=by intro pins s σ H xs us Q I r h;let#[x,c,t,b,rfl,ty,hk,q]:=h;let#[u,w',rfl,rx,rc]:=nJ r;cases (show w'=Value.type c from rc);exact CM I rx ty hk λtk=>#[.bl b,H,I.tok _,rfl,q]
end
abbrev jK:Expr->Kd V
 | .Constant (.str x) _ _=>⇑(.str x)
 | .Constant (.int i) _ _=>⇑(.int i)
 | .Constant (.bool b) _ _=>⇑(.bl b)
 | .Constant .none _ _=>some .non
 | _=>none
abbrev kT:List Expr->Kd (List V)
 | []=>⇑[]
 | e::r=>match jK e,kT r with
   | some v,⇑vs=>⇑(v::vs)
   | _,_=>none
def Gd {e:Expr} {v:V} (h:jK e=⇑v):PE X e (tC v):=by
 unfold jK at h;split at h
 . cases h; exact aT
 . cases h; exact aF
 . cases h; exact eP
 . cases h; exact du
 . cases h
def zr {e:Expr} {es:List Expr} {v:V} (h:jK e=⇑v):starEach (e::es) X.env=(false,eval e X.env)::starEach es X.env:=by unfold jK at h;split at h <;> first|rfl|cases h
def qY {X:Cx}:∀{es:List Expr} {vs:List V},kT es=⇑vs->PA X es (λ_ H Q=>Q vs H)
 | [],vs,h=>by cases h;exact aH
 | e::r,vs,h=>by
   unfold kT at h;split at h
   . rename_i v vs' h1 h2
     cases h;exact af (Gd h1) (qY h2) (zr h1)
   . cases h
def aB.tup {K:Kh} {H H':Hp} {a:Kg} {xs:List V} (e:aB H H') (h:aN K H a xs):aN K H' a xs:=by
 rcases h with(h|⟨o,h⟩)|h
 . exact .inl (.inl (e _ _ h))
 . exact .inl (.inr #[o,e _ _ h])
 . exact .inr h
def aB.new {o:HO} (h:H p=none):aB H (upd H p o):=λb u e=>by rw[aJ (dC e h)];exact e
def aB.upd {H':Hp}{o:HO} (e:aB H H') (h:H p=none):aB H (upd H' p o):=λb u q=>by rw[aJ (dC q h)];exact e b u q
structure DefOk (K:W.Frag) (mg:Str->Option Value) (name:Str) (st:Stmt) (ps:List Str) (f:Addr) (fd:FuncData):Prop where
 F:Fun K name name st f fd
 g:mg name=⇑↥f
 b:dk K fd ps []
section
variable {X:Cx} {k:Nat} {f:Kg} {fd:FuncData} {ps:List Str} {sp:Sp} {x:Str} {st:Stmt} {p pos:Pos} {e:Expr} {es:List Expr} {t:TA}
def b8 (D:DefOk X.K X.mg x st ps f fd) (G:FnOk X.prog X.w X.K X.mg X.base CX0 k f fd ps sp) (hr:Room k X.A) (ha:PA X (e::es) t) (hg:Gl X x:=by rfl)
   (hdb:(x==("__debug__":Str))=false:=by decide) (he:starEach (e::es) X.env=(false,eval e X.env)::starEach es X.env:=by rfl) (hpl:(backTo pos (starEach es X.env)).any (·.1)=false:=by rfl) :
   PE X (.Call (.Name x p) (e::es) [] pos) (oC sp [] E0 t):=Ax G hr hg D.g D.F.kp D.b .nil bN ha hdb he hpl
def nO {z:Int} (h:∃t,X.mg x=⇑(.int z t)) (hg:Gl X x:=by rfl) (hd:(x==("__debug__":Str))=false:=by decide):PE X (.Name x pos) (tC (.int z)):=by let#[t,h]:=h;exact ot hg h #[t,rfl] hd
def sN {a:Kg} (h:X.mg x=⇑↥a) (hg:Gl X x:=by rfl) (hd:(x==("__debug__":Str))=false:=by decide):PE X (.Name x pos) (tC ↥a):=ot hg h rfl hd
end
def bi {K:Kh} {mg:Str->Kd Ke} {h:Heap} {name:Str} {st:Stmt} {ps:List Str} {f:Kg} {oc:Ke} {od an:Kd Kg} {osl:Array (Kd Ke)} {kV doc pm cdv ct:Ke} (X:K.In h) (G:h.Ns mainGlobals mg)
   (a:PySem.W.nsIn K mainGlobals name=⇑⇑↥f) (l:K.lookup f=⇑#[oc,od,.func (PySem.W.fnOf name name (dH st) (aU st) (ac st) .none kV doc pm an cdv ct),osl]) (c:PySem.W.codeIn K cdv name=true) (k:PySem.W.keepIn K ↥f=true)
   (b:∀(kV doc pm:Ke) (an:Kd Kg) (cdv ct:Ke) (us:List Ke),us.length=ps.length->bindArgs (PySem.W.fnOf name name (dH st) (aU st) (ac st) .none kV doc pm an cdv ct) #[us,[]]=pure (ps.zip us)) :
   DefOk K mg name st ps f (PySem.W.fnOf name name (dH st) (aU st) (ac st) .none kV doc pm an cdv ct) :=
 #[fq l c k,PySem.W.mg_of X G a,(fq l c k).binds b]
def gR {α:Type} {xs:List α} {i:Int} (h0:0<=i) (h1:i<xs.length):∃v,bD xs i=⇑v/\v∈xs:=by
 have hi:i.toNat<xs.length:=by lia
 show#[xs[i.toNat],?_,J5 hi];have:=dO (xs:=xs) (j:=i.toNat) (v:=xs[i.toNat]) (by simp [hi]);have e:((i.toNat:Nat):Int)=i:=by lia
 rwa [e] at this
def Ak {ns:List Int} {i:Int} (h0:0<=i) (h1:i<ns.length):∃z,bD (ns.map V.int) i=⇑(.int z):=by let#[v,e,hv]:=gR (xs:=ns.map V.int) h0 (by rw[Go]; exact h1);let#[z,_,rfl]:=HX.mp hv;show#[z,e]
def bT {p:Prop} [Decidable p] (h:decide p=true):p:=Ht h
def ao {c A B:Prop} [Decidable c] (hc:c) (h:A):if c then A else B:=by rw[HI hc];exact h
def ai {c A B:Prop} [Decidable c] (hc:¬ c) (h:B):if c then A else B:=by rw[Gu hc];exact h
end L2
namespace L2
open PySem
def cL:bootBuiltins "len"=⇑(.builtin "len"):=by decide +kernel
def gZ:bootBuiltins "isinstance"=⇑(.builtin "isinstance"):=by decide +kernel
def Aa:bootBuiltins "min"=⇑(.builtin "min"):=by decide +kernel
def mv:bootBuiltins "max"=⇑(.builtin "max"):=by decide +kernel
def ja:bootBuiltins "str"=⇑(.type "str"):=by decide +kernel
def eW:bootBuiltins "int"=⇑(.type "int"):=by decide +kernel
def FI:bootBuiltins "bool"=⇑(.type "bool"):=by decide +kernel
def fT:bootBuiltins "list"=⇑(.type "list"):=by decide +kernel
def mx:bootBuiltins "tuple"=⇑(.type "tuple"):=by decide +kernel
def tG:bootBuiltins "dict"=⇑(.type "dict"):=by decide +kernel
def Ai:bootBuiltins "enumerate"=⇑(.type "enumerate"):=by decide +kernel
def uw:bootBuiltins "zip"=⇑(.type "zip"):=by decide +kernel
def En {b:Bool} (h:b=false):¬ b=true:=by rw[h]; decide
end L2
namespace L2
open PySem PySem.Spec PyProof.Rows
mutual
noncomputable def bP (K:Kh) (H:Hp):PyData->V->Prop
 | .none,v=>v=.non
 | .bool b,v=>v=.bl b
 | .int i,v=>v=.int i
 | .str x,v=>v=.str x
 | .list ds,v=>∃a xs,v=↥a/\aG K H a xs/\cJ K H ds xs
 | .tuple ds,v=>∃a xs,v=↥a/\aN K H a xs/\cJ K H ds xs
 | .dict _,_=>False
noncomputable def cJ (K:Kh) (H:Hp):List PyData->List V->Prop
 | [],xs=>xs=[]
 | d::ds,xs=>∃x r,xs=x::r/\bP K H d x/\cJ K H ds r
end
section
variable {X:Cx} {pins:List (Kg×Obj)} {σ:St} {H:Hp} {s:Kf}
mutual
theorem jb (I:Inv X pins σ H s):∀(d:PyData) (v:V) (u:Ke),bP X.K H d v->ag v u->∃as,Reads s.heap u d as
 | .none,v,u,h,r=>by unfold bP at h;subst h;cases (show u=Value.none from r);show#[_,.none]
 | .bool b,v,u,h,r=>by unfold bP at h;subst h;cases (show u=Value.bool b from r);show#[_,.bool b]
 | .int i,v,u,h,r=>by
   unfold bP at h;subst h;let#[t,rfl]:=(show ∃t,u=Value.int i t from r)
   show#[_,.int i t]
 | .str x,v,u,h,r=>by
   unfold bP at h;subst h;let#[t,rfl]:=(show ∃t,u=Value.str x t from r)
   show#[_,.str x t]
 | .list ds,v,u,h,r=>by unfold bP at h;let#[a,xs,rfl,hq,hd]:=h;cases (show u=Value.ref a from r);obtain⟨its,rv,⟨o,n,ho,hc,_,hdt⟩,_⟩:=I.list hq;let#[as,ra]:=mn I ds xs its hd rv;show#[_,.list ho hc hdt ↑ra]
 | .tuple ds,v,u,h,r=>by unfold bP at h;let#[a,xs,rfl,hq,hd]:=h;cases (show u=Value.ref a from r);obtain⟨its,rv,⟨o,ho,hc,n,hdt⟩,_⟩:=I.tuple hq;let#[as,ra]:=mn I ds xs its hd rv;show#[_,.tuple ho hc hdt ↑ra]
 | .dict _,v,u,h,r=>by unfold bP at h;exact h.elim
theorem mn (I:Inv X pins σ H s):∀(ds:List PyData) (xs:List V) (us:List Ke),cJ X.K H ds xs->ae xs us->∃as,ReadsAll s.heap us ds as
 | [],xs,us,h,r=>by unfold cJ at h;subst h;cases r;show#[_,.nil]
 | d::ds,xs,us,h,r=>by
   unfold cJ at h;let#[x,rest,rfl,hd,hds]:=h;cases r with
   | cons r1 r2 =>
     let#[as,ra]:=jb I d _ _ hd r1;let#[bs,rb]:=mn I ds _ _ hds r2;show#[_,.cons ra rb]
end
end
abbrev oh (K:Kh):R2:=λx y H Q=>∃d e,bP K H d x/\bP K H e y/\SeqAt.shaped d=true/\SeqAt.shaped e=true/\Q (.bl (PyData.eqv d e)) H
abbrev uc (K:Kh):R2:=λx y H Q=>∃d e,bP K H d x/\bP K H e y/\SeqAt.shaped d=true/\SeqAt.shaped e=true/\Q (.bl (!PyData.eqv d e)) H
variable {X:Cx}
def mU (hu:X.A.units+64<cLine):bU X (compareOp .Eq) (oh X.K):=by intro pins s σ H x y v u Q I rx ry h;let#[d,e,hd,he,sd,se,q]:=h;let#[as,ra]:=jb I d x v hd rx;let#[bs,rb]:=jb I e y u he ry;exact SeqAt.compareEq_shaped ra rb sd se hu #[.bl _,H,I,rfl,q]
def mF (hu:X.A.units+64<cLine):bU X (compareOp .NotEq) (uc X.K):=by intro pins s σ H x y v u Q I rx ry h;let#[d,e,hd,he,sd,se,q]:=h;let#[as,ra]:=jb I d x v hd rx;let#[bs,rb]:=jb I e y u he ry;exact SeqAt.compareNe_shaped ra rb sd se hu #[.bl _,H,I,rfl,q]
section
variable {prog:Program} {w:World} {A:Around} {E:Ke->Kf->Prop}
def qW {it t:Kg} {items:Array Ke} (hne:t≠it):∀(n i:Nat) (s:Kf) (Q:List Ke->Kf->Prop),s.heap.IsListIter it t i->s.heap.IsList t items->i+n<=items.size ->
   (∀h',h'.IsListIter it t (i+n)->Heap.SameBut it s.heap h'->Q ((items.toList.drop i).take n) { s with heap:=h' })->wpAny (model prog w) A (draw ↥it n) Q E s
 | 0,i,s,Q,hit,_,_,hQ=>by show wpAny _ _ (pure []) Q E s;exact HL (by simpa using hQ s.heap hit (Heap.SameBut.refl ..))
 | n+1,i,s,Q,hit,ht,hle,hQ=>by
   have hlt:i<items.size:=by lia
   show wpAny _ _ (pyNext ↥it >>= _) Q E s;refine Gp (Jc hit ht (x:=items[i]) (by simp [hlt]) λh₁ hit₁ hs₁=>?_);refine Gp (IU (qW hne n (i+1) _ _ hit₁ (ht.extBut hs₁.extBut hne) ∅ λh₂ hit₂ hs₂=>HL ?_));have hd:items.toList.drop i=items[i]::items.toList.drop (i+1):=by simp [KL,hlt]
   have:=hQ h₂ (by rw[show i+(n+1)=i+1+n by lia]; exact hit₂) (hs₁\hs₂);rw[hd,List.take_succ_cons] at this;exact this
def Az {s:Kf} {t:Kg} {items:Array Ke} {Q:List Ke->Kf->Prop} (hh:A.handled=none) (ht:s.heap.IsList t items)
   (hQ:∀h',Heap.ExtBut s.heap.objs.size s.heap h'->Q items.toList { s with heap:=h' }):wpAny (model prog w) A (unpackItems ↥t items.size none) Q E s:=by
 have hlt:t≠s.heap.objs.size:=by let#[o,ho,_]:=ht; exact Hu (HU ho)
 unfold unpackItems;refine Gp ?_;unfold notIterableAtAll;refine Gp (wpAny_specialOf ht.typeIs slot_list_iter.lookup ?_);refine HL ?_;simp only[K7,if_false];refine Gp (IU (IV ht ?_));refine Gp (IU (qW hlt items.size 0 _ _ #[_,HR _ rfl,7] (ht.push _) ∅ λh₁ hit₁ hs₁=>?_));have hall:List.take items.size (List.drop 0 items.toList)=items.toList:=by rw[List.drop_zero]; exact IZ 0xA
 rw[hall];rw[Gu 0xA];have ht₁:h₁.IsList t items:=(ht.push _).extBut hs₁.extBut hlt;refine Gp (IU (Jo hh hit₁ ht₁ 0xA λh₂ he₂=>?_));simp only[Option.isSome_none,K7,if_false];refine HL (hQ h₂ λb o hb e=>he₂ b o hb (hs₁.extBut b o hb (Gr _ e)))
end
abbrev Fk (K:Kh) (n:Nat) (t:eK):TG:=λv σ H Q=>∃a xs,v=↥a/\aG K H a xs/\xs.length=n/\t xs σ H Q
variable {pos:Pos}
def ux {es:List Expr} {k:Nat} {t:eK} {n:Nat} (hc:X.calm=true) (h:jR X es t)
   (hn:(assignEach es X.env).length=n:=by rfl) (hst:(assignEach es X.env).findIdx? (·.1)=none:=by rfl):PG X (.Tuple es k pos) (Fk X.K n t):=by
 intro pins s σ H v u Q I r hw;let#[a,xs,e1,hq,hl,hw]:=hw;subst e1;cases r;let#[its,rv,ht,hz]:=I.list hq;have hlen:=rv.length;rw[assign_Tuple];refine Gp (KA ?_);unfold unpack;rw[hst,hn,<- hl,hlen,show its.length=its.toArray.size by simp];refine Gp (IU (Az (I.ok.hd hc) ht.isList λh' hx=>?_));have I1:Inv X pins σ H { s with heap:=h' }:=I.kept (t':=s.toks) λb o e=>hx b o (Hu (HU e)) e;exact h pins _ σ H xs _ Q I1 ↑rv hw
def eG :bU X (binaryOp .FloorDiv) (rI (λ_ j=>0<j/\j<2 ^ 64) λi j=>.int (i / j)):=j8 λi j _ _ _ _ _ hc q=>by
 have h1:(0:Int)<j:=hc.1;have h2:j<2 ^ 64:=hc.2;refine floordiv_int ∅ (by rw[KB i ∅]; exact q) (.inl (PyProof.noPylong_of_log2 ?_));have h0:j.natAbs≠0:=by lia
 refine Nat.lt_trans (m:=64) ((Nat.log2_lt h0).mpr ?_) #[];have:(2:Int) ^ 64=((2 ^ 64:Nat):Int):=by decide
 lia
section
variable {κ:Type} [DecidableEq κ]
abbrev aZ (kvs:List (κ×V)) (k:κ):Kd V:=(kvs.find? λkv=>decide (kv.1=k)).map (·.2)
abbrev aQ (kvs:List (κ×V)) (k:κ) (v:V):List (κ×V) :=
 if(kvs.any λkv=>decide (kv.1=k))=true then kvs.map (λkv=>if kv.1=k then(kv.1,v) else kv) else kvs++[(k,v)]
def eu {p:κ×V} {r:List (κ×V)} {k:κ} (e:p.1=k):aZ (p::r) k=⇑p.2:=by simp [aZ,J8,e]
def eR {p:κ×V} {r:List (κ×V)} {k:κ} (e:¬ p.1=k):aZ (p::r) k=aZ r k:=by simp [aZ,J8,e]
def gu (k:κ):∀kvs:List (κ×V),(kvs.any λkv=>decide (kv.1=k))=(aZ kvs k).isSome
 | []=>rfl
 | p::r=>by
   rw[JE];by_cases e:p.1=k
   . simp only[eu e,HJ e,Bool.true_or,Option.isSome_some]
   . rw[eR e,Hg e,Bool.false_or]; exact gu k r
def pX (k j:κ) (y:V):∀kvs:List (κ×V),aZ (kvs.map λkv=>if kv.1=k then(kv.1,y) else kv) j=(aZ kvs j).map λx=>if j=k then y else x
 | []=>rfl
 | p::r=>by
   have ih:=pX k j y r;rw[Hn];by_cases h:p.1=k
   . rw[HI h];by_cases e:p.1=j
     . rw[eu (p:=(p.1,y)) e,eu e,Ju,HI (e.symm\h)]
     . rw[eR (p:=(p.1,y)) e,eR e,ih]
   . rw[Gu h];by_cases e:p.1=j
     . rw[eu (p:=p) e,eu e,Ju,Gu (λz=>h (e\z))]
     . rw[eR (p:=p) e,eR e,ih]
def rf (k j:κ) (y:V):∀kvs:List (κ×V),aZ kvs k=none->aZ (kvs++[(k,y)]) j=if j=k then ⇑y else aZ kvs j
 | [],_=>by
   by_cases e:k=j
   . rw[HI e.symm]; exact eu (p:=(k,y)) e
   . rw[Gu (λz=>e z.symm)]; exact eR (p:=(k,y)) e
 | p::r,hn=>by
   rw[List.cons_append];have hk:¬ p.1=k:=λz=>by rw[eu z] at hn; cases hn
   rw[eR hk] at hn;have ih:=rf k j y r hn;by_cases e:p.1=j
   . rw[eu e,eu e,Gu (λz=>hk (e\z))]
   . rw[eR e,eR e,ih]
def dj (kvs:List (κ×V)) (k j:κ) (y:V):aZ (aQ kvs k y) j=if j=k then ⇑y else aZ kvs j:=by
 unfold aQ;by_cases a:(kvs.any λkv=>decide (kv.1=k))=true
 . rw[HI a,pX];rw[gu] at a;by_cases e:j=k
   . let#[x,hx]:=JK.mp a;rw[HI e,e,hx,Ju,HI rfl]
   . rw[Gu e];cases aZ kvs j with
     | none=>rfl
     | some x=>rw[Ju,Gu e]
 . rw[Gu a];refine rf k j y kvs ?_;rw[gu] at a;cases q:aZ kvs k with
   | none=>rfl
   | some x=>rw[q] at a; exact(a rfl).elim
def dN (kvs:List (κ×V)) (k:κ) (v:V):(aQ kvs k v).length<=kvs.length+1:=by
 unfold aQ;split
 . rw[Go]; lia
 . rw[Gv,Hs,Ih]; lia
def sL {kvs:List (κ×V)} {k:κ} (v:V) (h:aZ kvs k=none):aQ kvs k v=kvs++[(k,v)]:=by unfold aQ;rw[gu,h];exact Gu #[]
def dI.isSome_eq {o:Kd V} {u:Kd Ke} (r:dI o u):o.isSome=u.isSome:=by
 cases o with
 | none=>cases u with
   | none=>rfl
   | some _=>exact(show False from r).elim
 | some _=>cases u with
   | none=>exact(show False from r).elim
   | some _=>rfl
def dI.getD {o:Kd V} {u:Kd Ke} {d:V} {d':Ke} (r:dI o u) (rd:ag d d'):ag (o.getD d) (u.getD d'):=by
 cases o with
 | none=>cases u with
   | none=>exact rd
   | some _=>exact(show False from r).elim
 | some _=>cases u with
   | none=>exact(show False from r).elim
   | some _=>exact r
def KV.val {kvs:List (κ×V)} {vs:List (κ×Ke)} (r:KV kvs vs) (k:κ):dI (aZ kvs k) (valueAt vs k):=by
 unfold KV at r
 induction r with
 | nil=>exact True.intro
 | @cons p q ps qs h t ih =>
   let#[h1,h2]:=h;by_cases e:p.1=k
   . have e':q.1=k:=h1.symm\e;have b:valueAt (q::qs) k=⇑q.2:=by simp [valueAt,J8,e']
     rw[eu e,b]; exact h2
   . have e':¬ q.1=k:=λz=>e (h1\z);have b:valueAt (q::qs) k=valueAt qs k:=by simp [valueAt,J8,e']
     rw[eR e,b]; exact ih
def KV.any {kvs:List (κ×V)} {vs:List (κ×Ke)} (r:KV kvs vs) (k:κ):(kvs.any λkv=>decide (kv.1=k))=vs.any λkv=>decide (kv.1=k):=by
 unfold KV at r
 induction r with
 | nil=>rfl
 | cons h t ih=>rw[JE,JE,ih,h.1]
variable {u:Ke} {y:V}
def KV.repl {kvs:List (κ×V)} {vs:List (κ×Ke)} (r:KV kvs vs) (k:κ) (ry:ag y u) :
   KV (kvs.map λkv=>if kv.1=k then(kv.1,y) else kv) (vs.map λkv=>if kv.1=k then(kv.1,u) else kv):=by
 unfold KV at r ⊢
 induction r with
 | nil=>exact .nil
 | @cons p q ps qs h t ih =>
   rw[Hn,Hn];refine .cons ?_ ih;let#[h1,h2]:=h;by_cases e:p.1=k
   . rw[HI e,HI (h1.symm\e)]; show#[h1,ry]
   . rw[Gu e,Gu (λz=>e (h1\z))]; show#[h1,h2]
def KV.put {kvs:List (κ×V)} {vs:List (κ×Ke)} (r:KV kvs vs) (k:κ) (ry:ag y u):KV (aQ kvs k y) (stored vs k u):=by
 unfold aQ stored;rw[r.any k];by_cases e:(vs.any λkv=>decide (kv.1=k))=true
 . rw[HI e,HI e]; exact r.repl k ry
 . rw[Gu e,Gu e]; exact Paired.snoc r #[rfl,ry]
def KV.length {kvs:List (κ×V)} {vs:List (κ×Ke)} (r:KV kvs vs):kvs.length=vs.length:=Paired.length r
end
variable {w:World}
def fc {P:Program} {k:aE} (r:ag (kV k) u):(c7 P w).is k u=true:=by
 cases k with
 | inl i=>let#[t,e]:=(show ∃t,u=Value.int i t from r); subst e; exact Ce P w i t
 | inr x=>let#[t,e]:=(show ∃t,u=Value.str x t from r); subst e; exact Fu P w x t
def rn {P:Program} {w:World}:∀{ks:List aE} {us:List Ke},ae (ks.map kV) us->ItemsAre (c7 P w) ks us
 | [],_,r=>by rw[JM] at r; cases r; exact .nil
 | k::ks,_,r=>by
   rw[Hn] at r;cases r with
   | cons h t=>exact .cons (fc h) (rn t)
noncomputable abbrev KT (H:Hp):List (List aE×V)->List (List aE×Kg×Ke)->Prop:=Paired λp q=>p.1=q.1/\H q.2.1=⇑(.tup (p.1.map kV))/\ag p.2 q.2.2
variable {H:Hp}
def KT.val {kvs:List (List aE×V)} {xs:List (List aE×Kg×Ke)} (r:KT H kvs xs) (k:List aE):dI (aZ kvs k) ((atKey xs k).map (·.2)):=by
 induction r with
 | nil=>exact True.intro
 | @cons p q ps qs h t ih =>
   let#[h1,_,h2]:=h;by_cases e:p.1=k
   . have e':q.1=k:=h1.symm\e;have b:atKey (q::qs) k=⇑q.2:=by simp [atKey,J8,e']
     rw[eu e,b]; exact h2
   . have e':¬ q.1=k:=λz=>e (h1\z);have b:atKey (q::qs) k=atKey qs k:=by simp [atKey,J8,e']
     rw[eR e,b]; exact ih
def KT.repl {kvs:List (List aE×V)} {xs:List (List aE×Kg×Ke)} (r:KT H kvs xs) (k:List aE) (ry:ag y u) :
   KT H (kvs.map λkv=>if kv.1=k then(kv.1,y) else kv) (xs.map (putAt k u)):=by
 induction r with
 | nil=>exact .nil
 | @cons p q ps qs h t ih =>
   rw[Hn,Hn];refine .cons ?_ ih;let#[h1,h2,h3]:=h;unfold putAt;by_cases e:p.1=k
   . rw[HI e,HI (h1.symm\e)]; show#[h1,h2,ry]
   . rw[Gu e,Gu (λz=>e (h1\z))]; show#[h1,h2,h3]
def KT.put {kvs:List (List aE×V)} {xs:List (List aE×Kg×Ke)} (r:KT H kvs xs) (k:List aE) {b:Kg} (hb:H b=⇑(.tup (k.map kV))) (ry:ag y u) :
   KT H (aQ kvs k y) (storedH xs k b u):=by
 have e:(kvs.any λkv=>decide (kv.1=k))=(atKey xs k).isSome:=by rw[gu,(r.val k).isSome_eq,Option.isSome_map]
 unfold aQ storedH;rw[e];by_cases q:(atKey xs k).isSome=true
 . rw[HI q,HI q]; exact r.repl k ry
 . rw[Gu q,Gu q]; exact Paired.snoc r #[rfl,hb,ry]
variable {H':Hp}
def KT.keeps {kvs:List (List aE×V)} {xs:List (List aE×Kg×Ke)} (r:KT H kvs xs) (ht:∀b ys,H b=⇑(.tup ys)->H' b=⇑(.tup ys)):KT H' kvs xs :=
 Paired.mapP r λ_ _ z=>#[z.1,ht _ _ z.2.1,z.2.2]
section
variable {P:Program} {w:World} {H:Hp} {h:Heap} {a:Kg}
def qU {u:HO} (ok:cB P w H h) (e:Rd H a u):cE P w H h a u:=e.ok ok
def iy {kvs:List (aE×V)} (ok:cB P w H h) (e:Rd H a (.dK kvs)):kvs.length<=sizeLine/\(a==sysModules)=false/\∃vs,KV kvs vs/\h.DictOf (c7 P w) a vs :=
 show cE P w H h a (.dK kvs) from qU ok e
def jW {kvs:List (aE×V)} (ok:cB P w H h) (e:H a=⇑(.dK kvs)):kvs.length<=sizeLine/\(a==sysModules)=false/\∃vs,KV kvs vs/\h.DictOf (c7 P w) a vs:=iy ok (.inl e)
def jF {ks:List aE} (ok:cB P w H h) (e:H a=⇑(.tup (ks.map kV))):(tupleKind (c7 P w)).is h ks a:=by
 let#[_,its,r,o,h1,h2,n,h3]:=(show cE P w H h a (.tup (ks.map kV)) from ok a _ e)
 show#[o,its.toArray,n,h1,h2,h3,by simpa using rn r]
def ik {kvs:List (List aE×V)} (ok:cB P w H h) (e:Rd H a (.dT kvs)):kvs.length<=sizeLine/\(a==sysModules)=false /\
   ∃xs,KT H kvs xs/\h.DictOfH (tupleKind (c7 P w)) a xs:=by
 let#[z,y,xs,r,o,es,ep,h1,h2,h3,h4,h5]:=(show cE P w H h a (.dT kvs) from qU ok e)
 show#[z,y,xs,r,o,es,ep,h1,h2,h3,h4,λx hx=>?_,h5];have all:∀{l:List (List aE×V)} {m:List (List aE×Kg×Ke)},KT H l m->∀x∈m,(tupleKind (c7 P w)).is h x.1 x.2.1:=by
   intro l m q
   induction q with
   | nil=>intro x hx; exact nomatch hx
   | @cons p q ps qs hq t ih =>
     intro x hx;rcases HM.mp hx with e|hx
     . subst e;exact jF ok (by rw[<- hq.1]; exact hq.2.1)
     . exact ih x hx
 exact all r x hx
def Ah {kvs:List (List aE×V)} (ok:cB P w H h) (e:H a=⇑(.dT kvs)):kvs.length<=sizeLine/\(a==sysModules)=false /\
   ∃xs,KT H kvs xs/\h.DictOfH (tupleKind (c7 P w)) a xs:=ik ok (.inl e)
end
abbrev cX (H:Hp) (a:Kg) (y:V) (r:Kd V):Prop :=
 (∃kvs k,Rd H a (.dK kvs)/\y=kV k/\r=aZ kvs k)\/∃kvs k b,Rd H a (.dT kvs)/\y=↥b/\H b=⇑(.tup (k.map kV))/\r=aZ kvs k
abbrev bo (H:Hp) (a:Kg) (y v:V) (H':Hp):Prop :=
 (∃kvs k,H a=⇑(.dK kvs)/\y=kV k/\kvs.length<sizeLine/\H'=upd H a (.dK (aQ kvs k v))) \/
 ∃kvs k b,H a=⇑(.dT kvs)/\y=↥b/\H b=⇑(.tup (k.map kV))/\kvs.length<sizeLine/\H'=upd H a (.dT (aQ kvs k v))
def cX.k {H:Hp} {a:Kg} {kvs:List (aE×V)} {k:aE} (e:H a=⇑(.dK kvs)):cX H a (kV k) (aZ kvs k):=.inl #[kvs,k,.inl e,7]
variable {a:Kg}
def cX.t {b:Kg}{kvs:List (List aE×V)} {k:List aE} (e:H a=⇑(.dT kvs)) (eb:H b=⇑(.tup (k.map kV))):cX H a ↥b (aZ kvs k):=.inr #[kvs,k,b,.inl e,rfl,eb,rfl]
def bo.k {H:Hp} {a:Kg} {kvs:List (aE×V)} {k:aE} {v:V} (e:H a=⇑(.dK kvs)) (hl:kvs.length<sizeLine):bo H a (kV k) v (upd H a (.dK (aQ kvs k v))):=.inl #[kvs,k,e,rfl,hl,rfl]
def bo.t {b:Kg}{kvs:List (List aE×V)} {k:List aE} {v:V} (e:H a=⇑(.dT kvs)) (eb:H b=⇑(.tup (k.map kV))) (hl:kvs.length<sizeLine) :
   bo H a ↥b v (upd H a (.dT (aQ kvs k v))):=.inr #[kvs,k,b,e,rfl,eb,hl,rfl]
section
variable {X:Cx} {pins:List (Kg×Obj)} {σ:St} {H:Hp} {s:Kf} {a:Kg} {y v:V} {u r:Ke} {o:Kd V} {A:Around} {E:Ke->Kf->Prop}
def Inv.big (I:Inv X pins σ H s):sysModules<s.heap.objs.size:=by have h:mainGlobals<s.heap.objs.size:=(I.mod.glob.keeps I.bk).lt;exact Nat.lt_trans #[] h
def EU {Q:Ke->Kf->Prop} (hu:A.units+1<cLine) (I:Inv X pins σ H s) (g:cX H a y ⇑v) (ry:ag y u) (h:∀w' s',Inv X pins σ H s'->ag v w'->Q w' s') :
   wpAny 0x8 A (getItem ↥a u) Q E s:=by
 rcases g with⟨kvs,k,e,ey,l⟩|⟨kvs,k,b,e,ey,eb,l⟩
 . subst ey;let#[z,hd,vs,rel,dd]:=iy I.hok e;let#[w',hw,rw']:=dI.some_of (v:=v) (o:=valueAt vs k) (by rw[l]; exact rel.val k);exact wpAny_getItem_of (fc ry) dd.mapOf hw (h w' _ (I.tok _) rw')
 . subst ey;cases (show u=Value.ref b from ry);let#[z,hd,xs,rel,dd]:=ik I.hok e;let#[w',hw,rw']:=dI.some_of (v:=v) (o:=(atKey xs k).map (·.2)) (by rw[l]; exact rel.val k);let#[p,hp,hp2]:=Ix.mp hw;refine wpAny_getItem_heap (tupleKind_room_in1 hu) (jF I.hok eb) dd hp ?_;rw[hp2];exact h w' _ (I.tok _) rw'
def Fa {Q:Ke->Kf->Prop} (hu:A.units+1<cLine) (I:Inv X pins σ H s) (g:cX H a y o) (ry:ag y u) (h:∀s',Inv X pins σ H s'->Q (.bool o.isSome) s') :
   wpAny 0x8 A (compareOp .In u ↥a) Q E s:=by
 rcases g with⟨kvs,k,e,ey,l⟩|⟨kvs,k,b,e,ey,eb,l⟩
 . subst ey;let#[z,hd,vs,rel,dd]:=iy I.hok e;refine wpAny_in_of (fc ry) hd dd.mapOf ?_;rw[<- (rel.val k).isSome_eq,<- l];exact h _ (I.tok _)
 . subst ey;cases (show u=Value.ref b from ry);let#[z,hd,xs,rel,dd]:=ik I.hok e;refine wpAny_in_heap (tupleKind_room_in1 hu) (jF I.hok eb) hd dd ?_;have q:=(rel.val k).isSome_eq;rw[Option.isSome_map] at q;rw[<- q,<- l];exact h _ (I.tok _)
def jk {h':Heap} {t':Nat} {ob:HO} (I:Inv X pins σ H s) (mu:jy (H a)) (hs:Heap.SameBut a s.heap h') (he:∃q,h'.get? a=⇑q) (new:cE X.prog X.w (upd H a ob) h' a ob) :
   Inv X pins σ (upd H a ob) { s with heap:=h',toks:=t' } :=
 I.write (x:=a) (e:=a) mu (.inl rfl) (λb q hb z=>(hs.2 b hb)\z) he new
def kU {P:Program} {h':Heap} {kvs:List (aE×V)} {vs:List (aE×Ke)} (z:kvs.length<=sizeLine) (hd:(a==sysModules)=false) (rel:KV kvs vs) (dd:h'.DictOf (c7 P w) a vs) :
   cE P w H' h' a (.dK kvs):=#[z,hd,vs,rel,dd]
def A0 {Q:Unit->Kf->Prop} (hu:A.units+1<cLine) (I:Inv X pins σ H s) (g:bo H a y v H') (ry:ag y u) (rv:ag v r) (h:∀s',Inv X pins σ H' s'->Q () s') :
   wpAny 0x8 A (setItem ↥a u r) Q E s:=by
 rcases g with⟨kvs,k,e,ey,l,eH⟩|⟨kvs,k,b,e,ey,eb,l,eH⟩
 . subst ey eH;let#[z,hd,vs,rel,dd]:=jW I.hok e;have hz:vs.length<=sizeLine:=by rw[<- rel.length]; exact z
   have hl:(aQ kvs k v).length<=sizeLine:=by have:=dN kvs k v; lia
   refine wpAny_setItem_pairs (hsz:=hz) (fc ry) dd λh' dd' hs=>h _ ?_;have he:∃q,h'.get? a=⇑q:=by let#[q,_,_,hq,_]:=dd'; show#[q,hq]
   exact jk I (by rw[e]; exact True.intro) hs he (kU hl hd (rel.put k rv) dd')
 . subst ey eH;cases (show u=Value.ref b from ry);let#[z,hd,xs,rel,dd]:=Ah I.hok e;have hz:xs.length<=sizeLine:=by rw[<- Paired.length rel]; exact z
   have hl:(aQ kvs k v).length<=sizeLine:=by have:=dN kvs k v; lia
   refine wpAny_setItem_heap (hsz:=hz) (tupleKind_room_in1 hu) (jF I.hok eb) dd λh' dd' hs=>h _ ?_;let#[q,es,ep,hq,h2,h3,h4,_,h5]:=dd';refine jk I (by rw[e]; exact True.intro) hs #[q,hq] #[hl,hd,_,(rel.put k eb rv).keeps λc ys ec=>?_,q,es,ep,hq,h2,h3,h4,h5];rw[aJ (fR ec e (λz=>nomatch z))];exact ec
end
abbrev sS (i:Expr):Prop:=∀ov iv,subscripted i false ov iv=operate [ov,iv] (getItem ov iv)
def yn {prog:Program} {A:Around} {E:Ke->Kf->Prop} {s:Kf} {env:Env} {value slice:Expr} {T id:String} {Q:Ke->Kf->Prop}
   (hl:typeLookup (.type T) "__getitem__"=pure ⇑(.builtin id)) (hs:sS slice)
   (h:wpAny (model prog w) A (eval value env) (λo s₁=>wpAny (model prog w) A (eval slice env) (λi s₂=>s₂.TypeIs o T/\wpAny (model prog w) A (getItem o i) Q E s₂) E s₁) E s) :
   wpAny (model prog w) A (eval (.Subscript value slice pos) env) Q E s:=by
 refine Subscript_ (JR h (λo s₁ h₁=>JR h₁ (λi s₂ h₂=>?_) λ_ _ x=>x) λ_ _ x=>x);let#[hT,h₂]:=h₂;unfold subscriptTail;refine Gp ?_;rw[getitemInPython_of_ne hT.not_modules];refine Gp (wpAny_specialOf hT hl ?_);have fin:wpAny (model prog w) A (subscripted slice false o i) (λr s₃=>wpAny (model prog w) A (letTemporaryGo value o r >>= λ_=>pure r) Q E s₃) E s₂:=by rw[hs o i];exact wpAny_operating (JR h₂ (λr s₃ h₃=>Gp (wpAny_letTemporaryGo (HL h₃))) λ_ _ x=>x)
 first
   | exact HL (Gp fin)
   | exact Gp (HL (Gp fin))
   | exact Gp fin
def C3 {pins:List (Kg×Obj)} {σ:St} {s:Kf} {o:Kd V} (I:Inv X pins σ H s) (g:cX H a y o):s.TypeIs ↥a "dict":=by
 rcases g with⟨kvs,k,e,_,_⟩|⟨kvs,k,b,e,_,_,_⟩
 . let#[_,_,vs,_,dd]:=iy I.hok e;exact dd.typeIs
 . let#[_,_,xs,_,dd]:=ik I.hok e;exact dd.typeIs
abbrev C9 (td ty:TE):TE:=λσ H Q=>td σ H λx H1=>ty σ H1 λy H2=>∃a v,x=↥a/\cX H2 a y ⇑v/\Q v H2
abbrev Gf (ty td:TE):TE:=λσ H Q=>ty σ H λy H1=>td σ H1 λx H2=>∃a o,x=↥a/\cX H2 a y o/\Q (.bl o.isSome) H2
abbrev CL (td ty tv:TE):TS:=λD σ H=>tv σ H λv H1=>td σ H1 λx H2=>ty σ H2 λy H3=>∃a H4,x=↥a/\bo H3 a y v H4/\D.nx σ H4
section
variable {X:Cx} {o i e value:Expr} {pos pos' tpos:Pos} {td ty tv:TE}
def cC (hu:X.A.units+1<cLine) (ho:PE X o td) (hi:PE X i ty) (hs:sS i):PE X (.Subscript o i pos) (C9 td ty):=by intro pins s σ H Q I h;refine yn PySem.F.slot_dict_getitem.lookup hs (aW (ho pins s σ H _ I h) λu s1 z106_=>z106_.e λx H1 I1 rx q1=>aW (hi pins s1 σ H1 _ I1 q1) λiv s2 z107_=>?_);let#[y,H2,I2,ry,a,v,ex,g,q2]:=z107_;subst ex;obtain rfl:u=Value.ref a:=rx;show#[C3 I2 g,EU hu I2 g ry λw' s3 I3 rw'=>#[v,H2,I3,rw',q2]]
def DX (hu:X.A.units+1<cLine) (hi:PE X i ty) (ho:PE X o td):PC X .In i o (Gf ty td):=by intro pins s σ H Q I h;refine aW (hi pins s σ H _ I h) λiv s1 z108_=>z108_.e λy H1 I1 ry q1=>aW (ho pins s1 σ H1 _ I1 q1) λu s2 z109_=>?_;let#[x,H2,I2,rx,a,ov,ex,g,q2]:=z109_;subst ex;obtain rfl:u=Value.ref a:=rx;exact Fa hu I2 g ry λs3 I3=>#[.bl ov.isSome,H2,I3,rfl,q2]
def cQ (hu:X.A.units+1<cLine) (ho:PE X o td) (hi:PE X i ty) (hv:PE X value tv) (hs:swapsWith value ⇑(.Subscript o i pos') pos.line X.env=pure false) :
   PS X (.Assign [.Subscript o i pos'] value pos) (CL td ty tv):=by
 intro pins s σ H D I h;refine wpAny_Assign_Subscript (aW (hv pins s σ H _ I h) λr s1 z112_=>z112_.e λv H1 I1 rv q1=>aW (ho pins s1 σ H1 _ I1 q1) λu s2 z113_=>z113_.e λx H2 I2 rx q2=>aW (hi pins s2 σ H2 _ I2 q2) λiv s3 z114_=>?_) hs;let#[y,H3,I3,ry,a,H4,ex,g,q3]:=z114_;subst ex;obtain rfl:u=Value.ref a:=rx;exact A0 hu I3 g ry rv λs4 I4=>#[σ,H4,I4,q3]
end
def ow {P:Program} (h:Heap) (hb:sysModules<h.objs.size):cE P w H (h.push { cls:=.type "dict",data:=.dict (List.toArray []) }) h.objs.size (.dK []) :=
 #[Hj _,beq_eq_false_iff_ne.mpr (Ne.symm (Hu hb)),[],.nil,Heap.DictOf.new h]
def DT {P:Program} (h:Heap) (hb:sysModules<h.objs.size):cE P w H (h.push { cls:=.type "dict",data:=.dict (List.toArray []) }) h.objs.size (.dT []) :=
 #[Hj _,beq_eq_false_iff_ne.mpr (Ne.symm (Hu hb)),[],.nil,_,(List.toArray []),(0),HR _ rfl,#[15],7,JS]
abbrev zp:TE:=λ_ H Q=>∀p,H p=none->Q ↥p (upd H p (.dK []))
abbrev Er:TE:=λ_ H Q=>∀p,H p=none->Q ↥p (upd H p (.dT []))
section
variable {X:Cx} {pos:Pos}
def eV:PE X (.Dict [] [] pos) zp:=λpins s σ H Q I h =>
 wpAny_Dict_empty #[↥s.heap.objs.size,_,I.laid (a:=s.heap.objs.size) (o:=.dK []) (t':=s.toks) (λ_ _ q=>Gr _ q) (Gw _) (ow s.heap I.big),rfl,h _ (I.hok.fresh (Gw _))]
def sP:PE X (.Dict [] [] pos) Er:=λpins s σ H Q I h =>
 wpAny_Dict_empty #[↥s.heap.objs.size,_,I.laid (a:=s.heap.objs.size) (o:=.dT []) (t':=s.toks) (λ_ _ q=>Gr _ q) (Gw _) (DT s.heap I.big),rfl,h _ (I.hok.fresh (Gw _))]
end
abbrev oF:List (TE×TE)->St->Hp->(List (V×V)->Hp->Prop)->Prop
 | [],_,H,Q=>Q [] H
 | (tk,tv)::r,σ,H,Q=>tk σ H λx H1=>tv σ H1 λy H2=>oF r σ H2 λps H3=>Q ((x,y)::ps) H3
noncomputable abbrev VV:List (V×V)->List (Ke×Ke)->Prop:=Paired λp q=>ag p.1 q.1/\ag p.2 q.2
abbrev kj (X:Cx) (pos:Pos) (keys:List (Kd Expr)) (values:List Expr) (trs:List (TE×TE)):Prop :=
 ∀(pins:List (Kg×Obj)) (s:Kf) (σ:St) (H:Hp) (Q:List (V×V)->Hp->Prop),Inv X pins σ H s->oF trs σ H Q ->
   wpAny 0x8 X.A (evalPairs (pairTrees keys values X.env pos)) (λvs s'=>∃ps H',Inv X pins σ H' s'/\VV ps vs/\Q ps H') X.xe s
def rp :kj X pos [] [] []:=λpins s σ H Q I h=>pairTrees_nil_walk #[[],H,I,.nil,h]
def eh {X:Cx} {pos:Pos} {k v:Expr} {ks:List (Kd Expr)} {vs:List Expr} {tk tv:TE} {trs:List (TE×TE)} (hk:PE X k tk) (hv:PE X v tv) (hr:kj X pos ks vs trs) :
   kj X pos (⇑k::ks) (v::vs) ((tk,tv)::trs):=λpins s σ H Q I h =>
 pairTrees_cons_walk (aW (hk pins s σ H _ I h) λu s1 ⟨x,H1,I1,rx,q1⟩=>aW (hv pins s1 σ H1 _ I1 q1) λw2 s2 ⟨y,H2,I2,ry,q2⟩ =>
   aW (hr pins s2 σ H2 _ I2 q2) λws s3 z123_=>by let#[ps,H3,I3,rel,q3]:=z123_; show#[(x,y)::ps,H3,I3,.cons #[rx,ry] rel,q3])
abbrev jm (kvs more:List (aE×V)):List (aE×V):=more.foldl (λacc kv=>aQ acc kv.1 kv.2) kvs
def KV.merge:∀{more:List (aE×V)} {rs:List (aE×Ke)} {kvs:List (aE×V)} {vs:List (aE×Ke)},KV more rs->KV kvs vs->KV (jm kvs more) (merged vs rs):=by
 intro more rs kvs vs r;unfold KV at r
 induction r generalizing kvs vs with
 | nil=>intro q; exact q
 | @cons p q ps qs h t ih =>
   intro r0;have e:KV (aQ kvs p.1 p.2) (stored vs q.1 q.2):=by have:=r0.put p.1 h.2;rw[<- h.1]; exact this
   exact ih e
def tL:∀(more kvs:List (aE×V)),(jm kvs more).length<=kvs.length+more.length
 | [],kvs=>by show kvs.length<=kvs.length+0; lia
 | p::r,kvs=>by have h1:=tL r (aQ kvs p.1 p.2);have h2:=dN kvs p.1 p.2;show(jm (aQ kvs p.1 p.2) r).length<=_;rw[Hs]; lia
def qA {P:Program} {w:World}:∀{kvs:List (aE×V)} {ws:List (Ke×Ke)},VV (kvs.map λkv=>(kV kv.1,kv.2)) ws->∃rs,Carries (c7 P w) ws rs/\KV kvs rs
 | [],_,r=>by rw[JM] at r; cases r; show#[[],True.intro,.nil]
 | p::kvs,_,r=>by
   rw[Hn] at r;cases r with
   | @cons a b as bs h t =>
     let#[rs,c,q]:=qA (P:=P) (w:=w) t;let#[b1,b2]:=b;show#[(p.1,b2)::rs,#[fc h.1,rfl,c],.cons #[rfl,h.2] q]
abbrev DD (trs:List (TE×TE)):TE:=λσ H Q=>∀p,H p=none->oF trs σ (upd H p (.dK [])) λps H2=>H2 p=⇑(.dK [])/\∃kvs:List (aE×V),ps=kvs.map (λkv=>(kV kv.1,kv.2))/\kvs.length<=15/\Q ↥p (upd H2 p (.dK (jm [] kvs)))
def qG {X:Cx} {pos:Pos} {keys:List (Kd Expr)} {values:List Expr} {trs:List (TE×TE)} (h:kj X pos keys values trs) (hall:keys.all (·.isSome)=true) (hl:keys.length=values.length) (h0:keys≠[])
   (h15:keys.length<=15):PE X (.Dict keys values pos) (DD trs):=by
 intro pins s σ H Q I q;have hn:=I.hok.fresh (Gw s.heap.objs.size);have I1:=I.laid (a:=s.heap.objs.size) (o:=.dK []) (h':=s.heap.push { cls:=.type "dict",data:=.dict (List.toArray []) }) (t':=s.toks) (λ_ _ q=>Gr _ q) (Gw _) (ow s.heap I.big);refine wpAny_Dict_walk (knd:=c7 X.prog X.w) hall hl h0 h15 (aW (h pins _ σ _ _ I1 (q _ hn)) λws s2 z124_=>?_);let#[ps,H2,I2,rel,e,kvs,ep,lk,q2]:=z124_;subst ep;let#[rs,c,rk]:=qA (P:=X.prog) (w:=X.w) rel;let#[z,hd,vs0,r0,dd]:=jW I2.hok e;cases r0;show#[rs,c,dd,λh' dd' hs=>#[↥s.heap.objs.size,_,?_,rfl,q2]];have hz:(jm [] kvs).length<=sizeLine:=by have h1:=tL kvs [];rw[Ih] at h1;rw[sizeLine_eq]; lia
 have he:∃q,h'.get? s.heap.objs.size=⇑q:=by let#[q,_,_,hq,_]:=dd'; show#[q,hq]
 exact jk I2 (by rw[e]; exact True.intro) hs he (kU hz hd (rk.merge .nil) dd')
structure M2 (X:Cx) (o:Expr) (m:Str) (apos:Pos) (e f:Expr) (cpos:Pos):Prop where
 base:attributeBase o m X.env (eval o X.env)=eval o X.env
 few:((backTo cpos (starEach [e,f] X.env)).all (λx=>!x.1)&&(backToKw cpos (keywordEach [] X.env)).all (λx=>x.1.isSome)
   && decide (([e,f]:List Expr).length+([]:List Keyword).length+(if([]:List Keyword).isEmpty then 0 else 1)<30))=true
 line:(apos.endLine==cpos.line)=true
 trees:backTo cpos (starEach [e,f] X.env)=[(false,eval e X.env),(false,eval f X.env)]
abbrev nV (H:Hp) (a:Kg):Prop:=(∃kvs,Rd H a (.dK kvs))\/∃kvs,Rd H a (.dT kvs)
def ui {pins:List (Kg×Obj)} {σ:St} {s:Kf} (I:Inv X pins σ H s) (d:nV H a) :
   s.TypeIs ↥a "dict"/\(∀b,Value.ref a=↥b->∃ob,s.heap.get? b=⇑ob/\ob.dict=none)/\(a==sysModules)=false:=by
 rcases d with⟨kvs,e⟩|⟨kvs,e⟩
 . let#[_,hd,vs,_,dd]:=iy I.hok e;show#[dd.typeIs,λb q=>?_,hd];cases q;let#[ob,_,_,h1,h2,_]:=dd;show#[ob,h1,h2.2.1]
 . let#[_,hd,xs,_,dd]:=ik I.hok e;show#[dd.typeIs,λb q=>?_,hd];cases q;let#[ob,_,_,h1,h2,_]:=dd;show#[ob,h1,h2.2.1]
section
variable {X:Cx} {pins:List (Kg×Obj)} {σ:St} {H:Hp} {s:Kf} {a:Kg} {y d:V} {u r:Ke} {o:Kd V} {A:Around} {E:Ke->Kf->Prop}
def C8 {Q:Ke->Kf->Prop} (hu:A.units+1<cLine) (I:Inv X pins σ H s) (g:cX H a y o) (ry:ag y u) (rd:ag d r) (h:∀w' s',Inv X pins σ H s'->ag (o.getD d) w'->Q w' s') :
   wpAny 0x8 A (call (.builtin "dict.get") [↥a,u,r]) Q E s:=by
 rcases g with⟨kvs,k,e,ey,l⟩|⟨kvs,k,b,e,ey,eb,l⟩
 . subst ey;let#[z,hd,vs,rel,dd]:=iy I.hok e;refine call_meetsIn Jq dd.typeIs PySem.F.entry_dict_get (KW _ _ _) (meets_dict_get_default (c7 X.prog X.w) a (fc ry) hd r) #[_,dd.mapOf,h _ _ (I.tok _) ?_];rw[l];exact(rel.val k).getD rd
 . subst ey;cases (show u=Value.ref b from ry);let#[z,hd,xs,rel,dd]:=ik I.hok e;refine call_meetsIn Jq dd.typeIs PySem.F.entry_dict_get (KW _ _ _) (meetsH_dict_get_default (tupleKind (c7 X.prog X.w)) a b hd r) #[tupleKind_room_in1 hu,k,xs,jF I.hok eb,dd,h _ _ (I.tok _) ?_];rw[l];exact(rel.val k).getD rd
end
abbrev EF (td ty tx:TE):TE:=λσ H Q=>td σ H λx H1=>∃a,x=↥a/\nV H1 a/\ty σ H1 λy H2=>tx σ H2 λz H3=>∃o,cX H3 a y o/\Q (o.getD z) H3
section
variable {X:Cx} {o e f:Expr} {apos cpos:Pos} {td ty tx:TE}
def kr (hu:X.A.units+1<cLine) (ho:PE X o td) (he:PE X e ty) (hf:PE X f tx) (m:M2 X o "get" apos e f cpos):PE X (.Call (.Attribute o "get" apos) [e,f] [] cpos) (EF td ty tx):=by
 intro pins s σ H Q I h;refine wpAny_Call_method m.base m.few m.line JU Jq PySem.F.type_dict_get (aW (ho pins s σ H _ I h) λu s1 z127_=>?_);let#[x,H1,I1,rx,a,ex,d,q1]:=z127_;subst ex;obtain rfl:u=Value.ref a:=rx;let#[t1,t2,_]:=ui I1 d;show#[t1,t2,?_];rw[m.trees];refine Calls.callWith_builtin rfl (Calls.evalArgs_plain (Calls.spliced_cons (aW (he pins s1 σ H1 _ I1 q1) λiv s2 ⟨y,H2,I2,ry,q2⟩ =>
   Calls.spliced_cons (aW (hf pins s2 σ H2 _ I2 q2) λfv s3 ⟨z,H3,I3,rz,ov,g,q3⟩=>Calls.spliced_nil ?_))))
 exact C8 hu I3 g ry rz λw' s4 I4 rw'=>#[_,H3,I4,rw',q3]
end
end L2
namespace PySem
def Dr:typeLookup (.type "list") "keys"=pure none:=by rw[typeLookup_type,builtinLookup_eq_fast]; kernel_rfl
def pe:entryFor table "dict.update.loop"=⇑Builtin.«dict.update.loop»:=entryFor_of_tree (by kernel_rfl)
def ll:plainId "dict.update.loop"=true:=by decide +kernel
def Bh {prog:Program} {w:World} {A:Around} {E:Ke->Kf->Prop} {s:Kf} {a:Kg} {o:Obj} {xs:Array Ke} {k:Nat} {Q:Kd Ke->Kf->Prop}
   (hx:s.heap.get? a=⇑o) (hc:o.cls=.type "list") (hdat:o.data=.seq xs k) (hd:o.dict=none) (hA:A.handled=none)
   (h:∀h' tk,(∀b ob,s.heap.get? b=⇑ob->h'.get? b=⇑ob)->Q none { s with heap:=h',toks:=tk }) :
   wpAny (model prog w) A (getAttr? ↥a "keys") Q E s:=by
 let#[c,dct,dat,sl]:=o;simp only at hc hdat hd;subst hc hdat hd;let#[hp,g,d,tk,os]:=s;have hT:∀tk',(⟨hp,g,d,tk',os⟩:Kf).TypeIs ↥a "list":=λ_=>#[_,hx,rfl]
 have f1:=sub_AttributeError;have f3:=JN.lookup;have f4:=JN.bind ↥a;have f5:=am_list_getattr_none;unfold getAttr? getAttrBy? getAttrBy
 repeat (any_goals (first|assumption|exact hT _|((with_reducible show wpAny _ _ (call (Value.builtin "list.__getattribute__") _ _) _ _ _); refine call_meets JN (hT _) am_entry_list_getattribute (F.args_list_getattribute_2 _ _) (meets_getattribute_miss_list a xs k sl "keys" _ Dr 0x7 0x7) #[hx,hA,λh' tk' e hx'=>?_])|wp_step))
 let#[t',u',he]:=hx'.there
 try (show wpAny _ _ (getattributeRaised _ _ _ _ _ _ _) _ _ _)
 try unfold getattributeRaised
 repeat (any_goals (first|assumption|wp_step))
 all_goals (first|exact h _ _ hx'.keeps|trace_state)
end PySem
namespace L2
open PySem PySem.Spec PyProof.Rows
section
variable {X:Cx} {pins:List (Kg×Obj)} {σ:St} {H:Hp}
def kg {α β:Type} {F:α->β->Prop}:∀{l:List α} {m:List β},Paired F l m->∀{i:Nat} (h1:i<l.length) (h2:i<m.length),F l[i] m[i]
 := by
 intro l m h
 induction h with
 | nil=>intro i h1; simp at h1
 | cons h t ih =>
   intro i h1 h2;cases i with
   | zero=>exact h
   | succ i =>
     have:=ih (i:=i) ↑h1 ↑h2;simpa using this
def FF {A:Around} {R:Result->Kf->Prop} {p D it:Kg} {ps:List Kg} {kvs:List (aE×V)} (hA:A.handled=none) (hpD:p≠D) (hS:aG X.K H p (ps.map V.ref)) (hps:Paired (λa (kv:aE×V)=>aN X.K H a [kV kv.1,kv.2]) ps kvs)
   (hD:H D=none) (hz:kvs.length<=100000) (hit0:it≠D)
   (hR:∀s',Inv X pins σ (upd H D (.dK (kvs.foldl (λacc kv=>aQ acc kv.1 kv.2) []))) s'->R (.ok (.ret .none)) s') :
   ∀(k i:Nat) (t:Tok) (s:Kf),kvs.length - i=k->i<=kvs.length->Inv X pins σ (upd H D (.dK ((kvs.take i).foldl (λacc kv=>aQ acc kv.1 kv.2) []))) s->s.heap.IsListIter it p i ->
     (∀H',H' it=none->eZ X pins H' it)->H it=none->codeAny 0x8 A (.builtin "dict.update.loop" #[[↥D,↥it,.int (i:Nat) t,.none],[]]) R s:=by
 have sameD:∀o,aB H (upd H D o):=λo=>aB.new hD;have hlen:ps.length=kvs.length:=hps.length;have flen:∀(l:List (aE×V)) (acc:List (aE×V)),(l.foldl (λacc kv=>aQ acc kv.1 kv.2) acc).length<=acc.length+l.length:=by
   intro l
   induction l with
   | nil=>intro acc; simp
   | cons x r ih =>
     intro acc;rw[Hv];have h1:=ih (aQ acc x.1 x.2);have h2:=dN acc x.1 x.2;simp only[Hs]
     lia
 have big:(100000:Nat)<sizeLine:=by decide
 intro k
 induction k with
 | zero =>
   intro i t s hk hi I hit hfp hHit;have e:i=kvs.length:=by lia
   subst e;rw[IP] at I;let#[its,rv,pl,hz']:=I.list ((sameD _).seq hS);let#[f0,f1,f2,f3,f4,f5]:=hfp (upd H D (.dK (kvs.foldl (λacc kv=>aQ acc kv.1 kv.2) []))) (by rw[aJ hit0]; exact hHit);refine codeAny_builtin pe ?_;rw[Around.under_plainId ll _];show wpAny _ A.in1 (pyNext ↥it >>= _) _ _ s;have hl:=rv.length;rw[Go] at hl;refine Gp (Jo hA hit pl.isList (by simp; lia) λh' eb=>?_);have I1:Inv X pins σ (upd H D (.dK (kvs.foldl (λacc kv=>aQ acc kv.1 kv.2) []))) { s with heap:=h' }:=I.turned (t':=s.toks) (λb o hb e=>eb b o hb e) f0 f1 f3 f4 f5;show wpAny _ _ (Builtin.Dict.addKeywords D [] >>= _) _ _ _;exact Gp (HL (HL (hR _ I1)))
 | succ k ih =>
   intro i t s hk hi I hit hfp hHit;have hlt:i<kvs.length:=by lia
   let#[its,rv,pl,hz']:=I.list ((sameD _).seq hS);have hpi:(ps.map V.ref)[i]?=⇑↥(ps[i]'∅):=by simp [show i<ps.length by lia]
   let#[u,hu,ru]:=rv.get hpi;cases (show u=Value.ref _ from ru);let#[f0,f1,f2,f3,f4,f5]:=hfp (upd H D (.dK ((kvs.take i).foldl (λacc kv=>aQ acc kv.1 kv.2) []))) (by rw[aJ hit0]; exact hHit);refine codeAny_builtin pe ?_;rw[Around.under_plainId ll _];show wpAny _ A.in1 (pyNext ↥it >>= _) _ _ s;refine Gp (Jc hit pl.isList (x:=.ref ps[i]) ↑hu λh' hit' sb=>?_);have I1:Inv X pins σ (upd H D (.dK ((kvs.take i).foldl (λacc kv=>aQ acc kv.1 kv.2) []))) { s with heap:=h' }:=I.turned (t':=s.toks) (λb o hb e=>(sb.2 b hb)\e) f0 f1 f3 f4 f5;have hpair:aN X.K H ps[i] [kV (kvs[i]).1,(kvs[i]).2]:=kg hps ∅ hlt;obtain⟨its2,rv2,⟨o2,ho2,hc2,n2,hd2⟩,_⟩:=I1.tuple ((sameD _)<*hpair);cases rv2 with
   | cons r1 rr =>
     cases rr with
     | cons r2 rr =>
       cases rr
       rename_i ku vu
       refine Gp (IU (Gp (wpAny_tryCatch ?_)));show wpAny _ _ (Builtin.Dict.pairItems (.ref ps[i])) _ _ _;unfold Builtin.Dict.pairItems;refine Gp (Js (T:="tuple") #[o2,ho2,hc2] ?_);rw[HI #[]];refine Gp ?_;show wpAny _ _ (load ps[i] >>= _) _ _ _;refine Gp (wpAny_load ho2 ?_);rw[hd2];refine HL (HL ?_);show wpAny _ _ (holding [ku,vu] (dictSet D ku vu)) _ _ _;refine IU ?_;let#[z,hd,vs,rel,dd]:=jW I1.hok aI;have hl1:=flen (kvs.take i) [];have hl2:(kvs.take i).length<=kvs.length:=by rw[Hl]; lia
       simp only[Ih,Nat.zero_add] at hl1;have hzv:vs.length<=sizeLine:=by rw[<- rel.length]; exact z
       refine wpAny_dictSet_pairs (hsz:=hzv) (fc r1) dd λh2 dd2 hs2=>?_;have he:∃q,h2.get? D=⇑q:=by let#[q,_,_,hq,_]:=dd2; show#[q,hq]
       have hl3:(aQ ((kvs.take i).foldl (λacc kv=>aQ acc kv.1 kv.2) []) (kvs[i]).1 (kvs[i]).2).length<=sizeLine:=by
         have:=dN ((kvs.take i).foldl (λacc kv=>aQ acc kv.1 kv.2) []) (kvs[i]).1 (kvs[i]).2
         lia
       have I2:=jk (t':=({ s with heap:=h' }:Kf).toks+1) I1 (by rw[aI]; exact True.intro) hs2 he (kU hl3 hd (rel.put (kvs[i]).1 r2) dd2);rw[jf] at I2;have e3:(kvs.take (i+1)).foldl (λacc kv=>aQ acc kv.1 kv.2) []=aQ ((kvs.take i).foldl (λacc kv=>aQ acc kv.1 kv.2) []) (kvs[i]).1 (kvs[i]).2:=by rw[Hz,IC];simp [hlt]
       rw[<- e3] at I2;have hit2:h2.IsListIter it p (i+1):=by let#[oi,hoi,ri]:=hit';show#[oi,(hs2.2 it hit0)\hoi,ri]
       refine HL #[plainId_quiet ll _,?_];have:=ih (i+1) 0 _ ∅ ∅ I2 hit2 hfp hHit;exact this
end
section
variable {X:Cx}
abbrev BD (K:Kh):List V->Hp->VK->Prop:=λxs H Q=>∃(p:Kg) (ps:List Kg) (kvs:List (aE×V)),xs=[↥p]/\aG K H p (ps.map V.ref)/\Paired (λa (kv:aE×V)=>aN K H a [kV kv.1,kv.2]) ps kvs/\kvs.length<=100000 /\
 ∀d,H d=none->Q ↥d (upd H d (.dK (kvs.foldl (λacc kv=>aQ acc kv.1 kv.2) [])))
def uI (hc:X.calm=true):bh X (.type "dict") (BD X.K):=by
 intro pins s σ H xs us Q I r h;let#[p,ps,kvs,rfl,hS,hps,hz,q]:=h;let#[u,rfl,ru]:=gJ r;cases (show u=Value.ref p from ru);have hA:=I.ok.hd hc;have hD:H s.heap.objs.size=none:=I.hok.fresh (Gw _);let#[its,rv,pl,_]:=I.list hS;have hplt:p<s.heap.objs.size:=pl.lt;have I0:Inv X pins σ (upd H s.heap.objs.size (.dK [])) { s with heap:=s.heap.push { cls:=.type "dict",data:=.dict (List.toArray []) } } :=
   I.laid (a:=s.heap.objs.size) (o:=.dK []) (t':=s.toks) (λ_ _ q=>Gr _ q) (Gw _) (ow s.heap I.big)
 refine callType_codes (Q₁:=λobj s₁=>obj=↥s.heap.objs.size/\s₁={ s with heap:=s.heap.push { cls:=.type "dict",data:=.dict (List.toArray []) } }) PySem.F.kt_called_dict (PySem.F.kt_typeCall_dict_1 _) PySem.F.entry_dict_init (kt_code_dict_new _ #[7]) ?_;rintro obj s₁ ⟨rfl,rfl⟩;have hnew:(s.heap.push { cls:=.type "dict",data:=.dict (List.toArray []) }).DictOf (c7 X.prog X.w) s.heap.objs.size []:=Heap.DictOf.new s.heap;show#[hnew.typeIs,PySem.F.args_dict_init_2 _ _,?_];unfold Builtin.«dict.__init__»;refine Gp ?_;unfold Builtin.Dict.selfAndRest;refine Gp (wpAny_notOrdered_dict hnew.typeIs ?_);show wpAny _ _ (pure (s.heap.objs.size,[Value.ref p])) _ _ _;refine HL ?_;show wpAny _ _ (Builtin.Dict.updateFrom "dict.__init__" s.heap.objs.size ↥p [] .none) _ _ _;unfold Builtin.Dict.updateFrom;let#[o,n,ho,hcl,hdi,hda]:=pl;have ho1:(s.heap.push { cls:=.type "dict",data:=.dict (List.toArray []) }).get? p=⇑o:=Gr _ ho;refine Gp (Js (T:="list") #[o,ho1,hcl] ?_);rw[HI #[]];refine Gp (Bh (s:={ s with heap:=s.heap.push { cls:=.type "dict",data:=.dict (List.toArray []) } }) ho1 hcl hda hdi hA λh' tk hk=>?_);have I1:Inv X pins σ (upd H s.heap.objs.size (.dK [])) { s with heap:=h',toks:=tk }:=I0.kept hk;rw[HI 0x1];refine Gp (JT ?_);have ho2:h'.get? p=⇑o:=hk _ _ ho1;refine Gp (IV (s:={ s with heap:=h',toks:=tk }) (items:=its.toArray) #[o,ho2,hcl,n,hda] ?_);have I2:Inv X pins σ (upd H s.heap.objs.size (.dK [])) { s with heap:=h'.push { cls:=.type "list_iterator",data:=.fields (List.toArray [↥p,.int 0 0]) },toks:=tk }:=I1.kept (t':=tk) λb o e=>Gr _ e;have hsz:s.heap.objs.size<h'.objs.size:=by have e:(s.heap.push { cls:=.type "dict",data:=.dict (List.toArray []) }).get? s.heap.objs.size=some { cls:=.type "dict",data:=.dict (List.toArray []) }:=HR _ rfl;exact HU (hk _ _ e)
 have hit0:h'.objs.size≠s.heap.objs.size:=Ij hsz;have hHit:H h'.objs.size=none:=I.hok.fresh (IE hsz);refine HL #[plainId_quiet ll _,?_];refine FF (A:=X.A.in1) (it:=h'.objs.size) hA (Hu hplt) hS hps hD hz hit0 (λs' J=>#[rfl,↥s.heap.objs.size,_,J,rfl,q _ hD]) kvs.length 0 0 _ ∅ (Hj _) ↑I2 #[_,HR _ rfl,7] (λH' hn=>I1.fpOk (Gw _) hn) hHit
def sO:∀(xs:List V) (us:List Ke),xs.length=us.length->(∀(i:Nat) (x:V) (u:Ke),xs[i]?=⇑x->us[i]?=⇑u->ag x u)->ae xs us
 | [],[],_,_=>.nil
 | [],_::_,h,_=>by simp at h
 | _::_,[],h,_=>by simp at h
 | x::xs,u::us,h,k=>.cons (k 0 x u rfl rfl) (sO xs us ↑h λi y v e1 e2=>k (i+1) y v ↑e1 ↑e2)
def nN {P:Program} {w:World} {k:aE} {v:Ke} (h:(c7 P w).is k v=true):ag (kV k) v:=by
 rcases fK (show i7 k v=true from h) with⟨i,t,rfl,rfl⟩|⟨x,t,rfl,rfl⟩
 . show#[t,rfl]
 . show#[t,rfl]
def FT {P:Program} {w:World} {kvs:List (aE×V)} {vs:List (aE×Ke)} {acc:Array Ke} (rel:KV kvs vs) (h:ItemsOf (λi v=>∃k x,vs[i]?=⇑(k,x)/\(c7 P w).is k v=true) acc vs.length) :
   ae (kvs.map λkv=>kV kv.1) acc.toList:=by
 have hl:=rel.length;have el:acc.toList.length=acc.size:=by simp
 have hlen:(kvs.map λkv=>kV kv.1).length=acc.toList.length:=by rw[Go,el,h.1]; exact hl
 refine sO _ _ hlen λi x u e1 e2=>?_;let#[k,y,e3,e4]:=h.2 i u ↑e2;rw[HV] at e1;cases e5:kvs[i]? with
 | none=>rw[e5] at e1; cases e1
 | some kv =>
   rw[e5] at e1;have e1:kV kv.1=x:=↑e1
   have e6:kv.1=k:=by
     have h1:i<kvs.length:=(Gq.mp e5).1;have h2:i<vs.length:=by lia
     have e7:=kg rel h1 h2;have e8:kvs[i]=kv:=by have:=Gq.mp e5; exact this.2
     have e9:vs[i]=(k,y):=by have:=Gq.mp e3; exact this.2
     rw[e8,e9] at e7;exact e7.1
   rw[<- e1,e6];exact nN e4
def zK (hc:X.calm=true):bh X (.type "list") (λxs H Q=>∃d kvs,xs=[↥d]/\H d=⇑(.dK kvs)/\∀l,H l=none->Q ↥l (upd H l (.lst (kvs.map λkv=>kV kv.1)))):=by intro pins s σ H xs us Q I r h;let#[d,kvs,rfl,hd,q]:=h;let#[u,rfl,ru]:=gJ r;cases (show u=Value.ref d from ru);let#[z,lo,vs,rel,dd]:=jW I.hok hd;have hlen:=rel.length;obtain⟨ep,dat⟩:∃ep,s.heap.DictAt (c7 X.prog X.w) d vs ep:=dd.dictAt;refine PySem.W.kdl_call (PySem.W.kdl_dict (knd:=c7 X.prog X.w) (kvs:=vs) (ep:=ep) lo) (I.ok.hd hc) dat (by rw[<- hlen]; exact z) λh' tk acc' c' hk hS hit=>?_;have hv:ae (kvs.map λkv=>kV kv.1) acc'.toList:=FT rel hit;show#[↥s.heap.objs.size,_,I.laid (a:=s.heap.objs.size) (o:=.lst (kvs.map λkv=>kV kv.1)) hk (Gw _) #[by rw[Go]; exact z,acc'.toList,c',hv,by simpa using hS],rfl,q _ (I.hok.fresh (Gw _))]
end
end L2
namespace L2
open PySem PySem.Spec PyProof.Rows PySem.W
section
variable {prog:Program} {w:World} {A:Around} {E:Ke->Kf->Prop} {s:Kf} {δ:Type} {R:δ->Ke->Prop} {a:Kg} {D:List (Str×δ)} {k:Str} {tk:Tok} {d:δ}
def uM (T:KTD.TabOf R s.heap a D):s.TypeIs ↥a "dict":=by let#[_,o,_,_,ho,hc,_]:=T; show#[o,ho,hc.1]
def C1 {Q:Ke->Kf->Prop} (T:KTD.TabOf R s.heap a D) (hd:KTD.datumAt k D=⇑d) (h:∀v,R d v->Q v { s with toks:=s.toks+1 }) :
   wpAny (model prog w) A (getItem ↥a (.str k tk)) Q E s:=by
 have ty:=uM T;let#[_,o,es,ep,ho,hc,hdt,hr]:=T;unfold getItem
 try with_reducible refine IU ?_
 refine Gp (KG ty #[] ?_);refine Gp (wpAny_callSpecial?_slot (name:=Str.ofString "__getitem__") ty slot_dict_getitem
   (IW slot_dict_getitem ty entry_dict_getitem ?_ (args_dict_getitem _ _)))
 show wpAny _ _ (dictGet a (.str k tk) >>= _) _ _ s;refine Gp ?_;unfold dictGet
 try with_reducible refine IU ?_
 refine Gp (wpAny_pyHash_str (Gp (KTD.kt_dictFind_strs (s:={ s with toks:=s.toks+1 }) ho hdt (by obtain⟨l⟩:=es; simpa using hr.exact) ?_)));have hq:∃v,findBy (λk v=>v.isStr k) es k=⇑v/\R d v:=by
   have hf:findBy (λk v=>v.isStr k) es k=(es.toList.find? λe=>e.key.isStr k).map (·.val):=by obtain⟨l⟩:=es;simp [findBy]
   rw[hf];exact hr.find_some hd
 let#[v,hv,hR]:=hq;rw[findBy_of_findIdx?] at hv;cases hi:es.findIdx? λe=>e.key.isStr k with
 | none=>rw[hi] at hv; cases hv
 | some i =>
   rw[hi] at hv;have hv:es[i]?.map (·.val)=⇑v:=hv;refine Gp (wpAny_dictEntries (s:={ s with toks:=s.toks+1 }) ho hdt (HL ?_));show wpAny _ _ _ _ _ _;rw[hv];exact HL #[v,rfl,HL (h v hR)]
end
abbrev oH (K:Kh) (d:Kg) (rows:List (Str×List V)):Prop :=
 ∃(o:Obj) (es:Array DictEntry) (ep:Nat),K.lookup d=⇑o/\(d==sysModules)=false/\o.ExactDict/\o.data=.dict es ep/\KTD.Rows (λ(xs:List V) v=>∃a,v=↥a/\∀H:Hp,aN K H a xs) es.toList rows
abbrev GM (K:Kh):R2:=λx y H Q=>∃d rows k xs,x=↥d/\y=.str k/\oH K d rows/\KTD.datumAt k rows=⇑xs/\∀a,aN K H a xs->Q ↥a H
def CA {X:Cx}:aR X (GM X.K):=by
 intro value slice pins s σ H x y v u Q I rx ry h hs;obtain⟨d,rows,k,xs,rfl,rfl,⟨o,es,ep,ho,lo,hc,hd,hr⟩,hk,q⟩:=h;cases (show v=Value.ref d from rx);let#[t,rfl]:=(show ∃t,u=Value.str k t from ry)
 have T:KTD.TabOf (λ(xs:List V) v=>∃a,v=↥a/\∀H:Hp,aN X.K H a xs) s.heap d rows:=#[lo,o,es,ep,I.kIn d o ho,hc,hd,hr]
 refine tail_any (uM T) slot_dict_getitem.lookup (C1 T hk λv hv=>?_) hs;let#[a,rfl,hsq]:=hv;show#[↥a,H,I.tok _,rfl,q a (hsq H)]
end L2
namespace L2
open PySem PySem.Spec PyProof.Rows
abbrev nv:V->Ke->Bool
 | .non,.none=>true
 | .bl b,.bool c=>b==c
 | .int i,.int j _=>i==j
 | .str x,.str y _=>x==y
 | _,_=>false
def yd:∀{x:V} {v:Ke},nv x v=true->ag x v:=by
 intro x v h;unfold nv at h;split at h
 . rfl
 . obtain rfl:=beq_iff_eq.mp h; rfl
 . obtain rfl:=beq_iff_eq.mp h; show#[5]
 . obtain rfl:=beq_iff_eq.mp h; show#[5]
 . cases h
abbrev io:List V->List Ke->Bool
 | [],[]=>true
 | x::xs,v::vs=>nv x v&&io xs vs
 | _,_=>false
def qj:∀{xs:List V} {vs:List Ke},io xs vs=true->ae xs vs
 | [],[],_=>.nil
 | x::xs,v::vs,h=>by simp only[io,Ho] at h;exact .cons (yd h.1) (qj h.2)
 | [],_::_,h=>by simp [io] at h
 | _::_,[],h=>by simp [io] at h
abbrev mJ (K:Kh) (xs:List V) (v:Ke):Bool:=match v with
 | .ref a=>match K.lookup a with
   | some o=>o.cls==.type "tuple"&&(match o.data with | .seq its _=>decide (its.size<=sizeLine)&&io xs its.toList|_=>false)
   | none=>false
 | _=>false
def D9 {K:Kh} (xs:List V) (v:Ke) (h:mJ K xs v=true):∃a,v=↥a/\∀H:Hp,aN K H a xs:=by
 unfold mJ at h;split at h
 . rename_i a
   split at h
   . rename_i o ho
     rw[Ho] at h;let#[h1,h2]:=h;split at h2
     . rename_i its n hd
       rw[Ho] at h2;show#[a,rfl,λH=>.inr #[o,its,n,ho,beq_iff_eq.mp h1,hd,Ht h2.1,qj h2.2]]
     . cases h2
   . cases h
 . cases h
def Fi {K:Kh} {d:Kg} {rows:List (Str×List V)} (h:KTD.tabLook (mJ K) (λa=>K.lookup a) d rows=true):oH K d rows:=by
 simp only[KTD.tabLook,Ho] at h;let#[h0,hl]:=h;split at hl
 . rename_i o ho
   simp only[Ho] at hl;obtain⟨⟨⟨e1,e2⟩,e3⟩,e4⟩:=hl;split at e4
   . rename_i es ep hd
     show#[o,es,ep,ho,by simpa using h0,#[beq_iff_eq.mp e1,by simpa using e2,by simpa using e3],hd,KTD.rows_of_look D9 e4]
   . cases e4
 . cases hl
end L2
namespace L2
open PySem
abbrev tX:Expr->Kd (List V)
 | .List es _=>kT es
 | _=>none
def BW {X:Cx} {e:Expr} {vs:List V} (h:tX e=⇑vs):PE X e (uh λ_ H Q=>Q vs H):=by
 unfold tX at h;split at h
 . exact bI (qY h)
 . cases h
end L2
namespace L2
open PySem PySem.Spec PyProof.Rows
section
variable {prog:Program} {w:World} {A:Around} {E:Ke->Kf->Prop} {s:Kf}
def gx_nextOf_tup {it t:Kg} {i:Nat} {items:Array Ke} {x:Ke} {Q:Ke->Kf->Prop} (hit:s.heap.IsTupleIter it t i) (ht:s.heap.IsTuple t items) (hx:items[i]?=⇑x)
   (hQ:∀h',h'.IsTupleIter it t (i+1)->Heap.SameBut it s.heap h'->Q x { s with heap:=h' }):wpAny (model prog w) A (Builtin.SmallTypes.nextOf ↥it) Q E s:=by
 obtain⟨⟨o,ho,hc,hd⟩,⟨ol,hol,_,nl,hdl⟩⟩:=(#[id hit,ht]:_/\_)
 unfold Builtin.SmallTypes.nextOf; refine Gp (wpAny_callSpecial?_slot (name:=Str.ofString "__next__") hit.typeIs J1 (IW J1 hit.typeIs K8 ?_ (K3 _)));show wpAny (model prog w) _ (field ↥it 0 >>= _) _ _ s; refine Gp (IA ho hd (x:=↥t) rfl ?_);show wpAny (model prog w) _ (if(Value.ref t==Value.none)=true then _ else _) _ _ s; rw[Gu (by exact Hd)];show wpAny (model prog w) _ (field ↥it 1 >>= _) _ _ s; refine Gp (IA ho hd (x:=.int i 0) rfl ?_);show wpAny (model prog w) _ (seqItems? ↥t >>= _) _ _ s; refine Gp (IN hol hdl ?_); simp only[Hm,hx];refine Gp (wpAny_setField ho hd 0xA (HL #[x,rfl,HL (hQ _ #[_,Jp _ ho (Obj.isFreed_of_fields (Obj.data_mapFields hd _)),(Obj.cls_mapFields ..)\hc,by rw[Obj.data_mapFields hd]; simp [rawInt]] (Heap.SameBut.update ..))]))
def gx_nextOf_tup_end {it t:Kg} {i:Nat} {items:Array Ke} {Q:Ke->Kf->Prop} (hh:A.handled=none) (hit:s.heap.IsTupleIter it t i) (ht:s.heap.IsTuple t items) (hx:items[i]?=none)
   (hE:∀h' e,Heap.ExtBut it s.heap h'->(∃o,h'.get? e=⇑o/\o.cls=.type "StopIteration")->E ↥e { s with heap:=h' }):wpAny (model prog w) A (Builtin.SmallTypes.nextOf ↥it) Q E s:=by
 obtain⟨⟨o,ho,hc,hd⟩,⟨ol,hol,_,nl,hdl⟩⟩:=(#[id hit,ht]:_/\_)
 unfold Builtin.SmallTypes.nextOf; refine Gp (wpAny_callSpecial?_slot (name:=Str.ofString "__next__") hit.typeIs J1 (IW J1 hit.typeIs K8 ?_ (K3 _)));show wpAny (model prog w) _ (field ↥it 0 >>= _) _ _ s; refine Gp (IA ho hd (x:=↥t) rfl ?_);show wpAny (model prog w) _ (if(Value.ref t==Value.none)=true then _ else _) _ _ s; rw[Gu (by exact Hd)];show wpAny (model prog w) _ (field ↥it 1 >>= _) _ _ s; refine Gp (IA ho hd (x:=.int i 0) rfl ?_);show wpAny (model prog w) _ (seqItems? ↥t >>= _) _ _ s; refine Gp (IN hol hdl ?_); simp only[Hm,hx];refine Gp (JT (Gp (wpAny_setField ho hd 0xA ?_))); show wpAny (model prog w) _ (newExc (.type "StopIteration") [] >>= _) _ _ _;refine Gp ?_; simp only[newExc,newTuple]; refine Gp (Iu ?_ (by size_fits));refine Gp (m:=firstArgMember _ _) (wpAny_of_eq (a:=Value.none) (by first|rfl|(simp only[firstArgMember]; rfl)) (Iu ?_ (by size_fits)));simp only[raiseNew]; refine Gp (wpAny_handled ?_); first|rw[show A.in1.handled=none from hh] | rw[hh]
 refine Gp (HL (wpAny_throw (hE _ _ (((Heap.SameBut.update ..).extBut.push _).push _) #[_,HR _ rfl,rfl])))
end
variable {w:World}
def uR {prog:Program} {A:Around} (hh:A.handled=none) (it t:Kg) (hne:t≠it) (items:Array Ke) :
   Draws prog w A it [it,t] items.size (λi v=>items[i]?=⇑v) (λi h=>h.IsTupleIter it t i/\h.IsTuple t items) where
 live:=λ_ _ z135_=>by obtain⟨⟨o,ho,_⟩,_⟩:=z135_; show#[o,ho]
 frame:=λ_ _ _ z136_ hk=>by obtain⟨⟨o,ho,r⟩,⟨o2,ho2,r2⟩⟩:=z136_; show#[#[o,hk it 0xA o ho,r],#[o2,hk t 0xA o2 ho2,r2]]
 item:=λi s Q E hi z137_ hQ=>by let#[s1,s2]:=z137_; exact gx_nextOf_tup s1 s2 (x:=items[i]) (by simp [hi]) λh' hit' hs'=>hQ _ h' s.toks (by simp [hi]) #[hit',s2.extBut hs'.extBut hne] hs'
 done:=λs Q E z138_ hE=>by let#[s1,s2]:=z138_; exact gx_nextOf_tup_end hh s1 s2 0xA hE
section
variable {X:Cx} {pins:List (Kg×Obj)} {σ:St} {H:Hp} {s:Kf} {h':Heap}
def Inv.turnedL {t':Nat} {ch:List Kg} (I:Inv X pins σ H s) (k:∀b o,b ∉ ch->s.heap.get? b=⇑o->h'.get? b=⇑o) (hf:∀b∈ch,eZ X pins H b):Inv X pins σ H { s with heap:=h',toks:=t' }:=by
 have nit:∀b u,H b=⇑u->b ∉ ch:=λb u e z=>by rw[(hf b z).1] at e; cases e
 refine I.step (g':=s.gens) (d':=s.drawn) (ch:=ch) (λb hb=>#[(hf b hb).2.2.2.1,(hf b hb).2.1,(hf b hb).2.2.2.2.1,(hf b hb).2.2.2.2.2]) (λb o _ _ hc e _=>k b o hc e) (λb o _ _ hc e _=>#[o.slots,k b o hc e]) (λ_ _ _ _ n=>n) (λb o hc e=>#[o,k b o hc e]) (λ_ _ e=>e) (λ_ _ _ e=>e) (λb ps e=>#[(List.toArray []),by rw[e]; simp]) (λm hm=>?_) (λb u e=>?_) I.bare
 . let#[o,es,ep,ho,r]:=hm;show#[o,es,ep,k _ _ (λz=>(hf _ z).2.1 rfl) ho,r]
 . have key:∀c,c=b\/H c=⇑(.own b)->c ∉ ch:=λc hc=>by
     rcases hc with z|z
     . subst z; exact nit _ u e
     . exact nit c _ z
   exact(I.hok b u e).stay (λc v hc q=>k c v (key c hc) q) (λ_ q=>q) λ_ _ q=>q
def Inv.turnLaid {t':Nat} {ch:List Kg} {a:Kg} {o:HO} (I:Inv X pins σ H s) (k:∀b o,b ∉ ch->s.heap.get? b=⇑o->h'.get? b=⇑o) (hf:∀b∈ch,eZ X pins H b) (hp:s.heap.objs.size<=a) (new:cE X.prog X.w (upd H a o) h' a o) :
   Inv X pins σ (upd H a o) { s with heap:=h',toks:=t' }:=by
 have nit:∀b u,H b=⇑u->b ∉ ch:=λb u e z=>by rw[(hf b z).1] at e; cases e
 have hn:H a=none:=I.hok.fresh hp;refine I.step (g':=s.gens) (d':=s.drawn) (ch:=ch) (λb hb=>#[(hf b hb).2.2.2.1,(hf b hb).2.1,(hf b hb).2.2.2.2.1,(hf b hb).2.2.2.2.2]) (λb o _ _ hc e _=>k b o hc e) (λb o _ _ hc e _=>#[o.slots,k b o hc e]) (λb u _ q n=>by rw[aJ (λz=>by subst z; exact absurd (Hi (HU q) hp) (ID _))]; exact n) (λb o hc e=>#[o,k b o hc e]) (λb xs q=>by rw[aJ (dC q hn)]; exact q) (λb u xs q=>by rw[aJ (dC q hn)]; exact q) (λb ps q=>#[(List.toArray []),by rw[aJ (dC q hn),q]; simp]) (λm hm=>?_) (λb u e=>?_) I.bare
 . let#[o,es,ep,ho,r]:=hm;show#[o,es,ep,k _ _ (λz=>(hf _ z).2.1 rfl) ho,r]
 . by_cases hb:b=a
   . subst hb;rw[aI] at e;cases e;exact new
   . rw[aJ hb] at e;have key:∀c,c=b\/H c=⇑(.own b)->c ∉ ch:=λc hc=>by
       rcases hc with z|z
       . subst z; exact nit _ u e
       . exact nit c _ z
     exact(I.hok b u e).stay (λc v hc q=>k c v (key c hc) q) (λc q=>(aJ (dC q hn))\q) λc xs q=>(aJ (dC q hn))\q
end
def Aq (l:Kg) (items:Array Ke) (n:Nat) (dct:Kd Kg) (sl:Array (Kd Ke)) :
   Meets (Builtin.«enumerate.__new__» #[[.type "enumerate",↥l],[]]) (λ_ R s=>s.heap.get? l=some { cls:=.type "tuple",dict:=dct,data:=.seq items n,slots:=sl } /\
     R (.ok (.ret ↥(s.heap.push { cls:=.type "tuple_iterator",data:=.fields (List.toArray [↥l,.int 0 0]) }).objs.size))
       { s with heap:=(s.heap.push { cls:=.type "tuple_iterator",data:=.fields (List.toArray [↥l,.int 0 0]) }).push { cls:=.type "enumerate",data:=.fields (List.toArray [.none,.bool false,↥s.heap.objs.size,rawInt 0,.none,.none]) } }) :=
 .of_wp λprog w A R s h=>by
   let#[h0,g0,d0,t0,o0]:=s;let#[hl,h]:=h;have hsub:=sub_enumerate;have hL:Heap.IsTuple (Shared.heap ⟨h0,g0,d0,t0,o0⟩) l items:=#[_,hl,rfl,n,rfl]
   wp_walk using AutoSeq1.wpAny_loadPart' hl
   refine wpAny_stack_any λst=>HL ?_;split
   . rename_i c _ _ _ _ _
     cases (c==Value.type "enumerate") <;> (wp_walk using AutoSeq1.wpAny_loadPart' hl,Il hL; show#[5,h])
   . wp_walk using AutoSeq1.wpAny_loadPart' hl,Il hL; show#[5,h]
def EA {prog:Program} {A:Around} {E:Ke->Kf->Prop} {s:Kf} {l:Kg} {items:Array Ke} {Q:Ke->Kf->Prop} (hL:s.heap.IsTuple l items)
   (h:∀h',IsEnum h' (s.heap.objs.size+1) s.heap.objs.size 0 .none->h'.IsTupleIter s.heap.objs.size l 0->(∀b o,s.heap.get? b=⇑o->h'.get? b=⇑o)->Q ↥(s.heap.objs.size+1) { s with heap:=h' }) :
   wpAny (model prog w) A (call (.type "enumerate") [↥l]) Q E s:=by
 obtain⟨⟨c,dct,dt,sl⟩,hl,hc,n,hd⟩:=hL;cases (show c=.type "tuple" from hc); cases (show dt=.seq items n from hd);refine callType_new F.called_enumerate #[] (F.typeCall_enumerate_1 _) (F.newCall_enumerate_1 _) (λobj=>F.args_object_init_2 obj _) F.entry_enumerate_new (Aq l items n dct sl) #[hl,?_];have hz:(s.heap.push { cls:=.type "tuple_iterator",data:=.fields (List.toArray [↥l,.int 0 0]) }).objs.size=s.heap.objs.size+1:=IM ..;have he:IsEnum ((s.heap.push { cls:=.type "tuple_iterator",data:=.fields (List.toArray [↥l,.int 0 0]) }).push { cls:=.type "enumerate",data:=.fields (List.toArray [.none,.bool false,↥s.heap.objs.size,rawInt 0,.none,.none]) }) (s.heap.objs.size+1) s.heap.objs.size 0 .none:=by have e:=HR (s.heap.push { cls:=.type "tuple_iterator",data:=.fields (List.toArray [↥l,.int 0 0]) }) (o:={ cls:=.type "enumerate",data:=.fields (List.toArray [.none,.bool false,↥s.heap.objs.size,rawInt 0,.none,.none]) }) rfl;rw[hz] at e;exact e
 show _/\_;rw[hz];show#[#[_,he,rfl],h _ he #[_,Gr _ (HR _ rfl),7] λb o x=>Gr _ (Gr _ x)]
abbrev jc (K:Kh) (a:Kg):It :=
 #[λi H=>∃xs x,aN K H a xs/\xs[i]?=⇑x,λi H y H'=>∃b,y=↥b/\H b=none/\∀xs x,aN K H a xs->xs[i]?=⇑x->H'=upd H b (.tup [.int i,x]),λi H=>∃xs,aN K H a xs/\xs.length=i]
variable {K:Kh} {elts:List Expr} {pos:Pos}
def GL {P:Program} {k:Nat} (a e it:Kg) (hne:e≠it):Turn P w K (.Tuple elts k pos) (jc K a) [e,it] e (λi h=>(∃old,IsEnum h e it i old)/\h.IsTupleIter it a i) where
 mem:=by simp
 obj:=λi h st b hb=>by
   obtain⟨⟨old,he⟩,⟨o,ho,hc,hd⟩⟩:=st;rcases HM.mp hb with z|z
   . subst z;show#[_,he,λv z=>by cases (show Data.fields _=Data.cell v from z)]
   . have z:b=it:=↑z
     subst z;show#[o,ho,λv z=>by rw[hd] at z; cases z]
 keep:=λi h h' st kk=>by obtain⟨⟨old,he⟩,⟨o,ho,r⟩⟩:=st;show#[#[old,kk e 0xA _ he],#[o,kk it 0xA o ho,r]]
 item:=by
   intro X hP hw hK hc i pins s σ H E I hf st hg;subst hP hw hK;obtain⟨⟨old,he⟩,hit⟩:=st;let#[xs,x,hq,hx]:=hg;let#[its,rv,p,hz]:=I.tuple hq;have pt:s.heap.IsTuple a its.toArray:=p;let#[u,hu,ru]:=rv.get hx;have hia:a≠it:=λz=>by
     subst z;let#[o1,h1,c1,_]:=hit;let#[o2,h2,c2,_]:=pt;rw[h1] at h2;cases h2;rw[c1] at c2;injection c2 with c2
     exact absurd c2 #[]
   have hea:e ∉ [it,a]:=λz=>by
     rcases HM.mp z with z|z
     . exact hne z
     . have z:e=a:=↑z
       subst z;let#[o2,h2,c2,_]:=pt;rw[he] at h2;cases h2;injection (show Value.type "enumerate"=Value.type "tuple" from c2) with c2
       exact absurd c2 #[]
   have hlt:i<its.toArray.size:=by have:=(Gq.mp hu).1;simpa using this
   refine KY (uR (A:=X.A.in1) (I.ok.hd hc) it a hia its.toArray) he #[hit,pt] hlt hne hea λy h' tk hy hout hst hT hsz hk=>?_;show#[5,KC hout λh2 he2 hs2=>?_];have hs2:Heap.SameBut e h' h2:=hs2;have hyu:y=u:=by
     have hy:its.toArray[i]?=⇑y:=hy;have:its[i]?=⇑y:=↑hy
     rw[hu] at this;exact(Option.some.inj this).symm
   subst hyu;have helt:e<s.heap.objs.size:=HU he;have hfr:H s.heap.objs.size=none:=I.hok.fresh (Gw _);have hnS:s.heap.objs.size≠e:=Ij helt;have hT2:h2.get? s.heap.objs.size=some { cls:=.type "tuple",data:=.seq (List.toArray [.int i tk,y]) }:=(hs2.2 _ hnS)\hT;show#[↥s.heap.objs.size,upd H s.heap.objs.size (.tup [.int i,x]),I.turnLaid (t':=tk+1) (ch:=[e,it]) (λb o hb q=>?_) hf (Gw _) ?_,rfl,#[s.heap.objs.size,rfl,hfr,λxs' x' hq' hx'=>?_],#[#[y,by exact_mod_cast he2],?_],λb hb=>?_]
   . have h1:b≠e:=λz=>hb (by simp [z]);have h3:b≠it:=λz=>hb (by simp [z]);exact(hs2.2 b h1).trans (hk b o h1 h3 q)
   . show#[by show 2<=sizeLine; decide,[.int i tk,y],.cons #[tk,rfl] (.cons ru .nil),#[_,hT2,13]]
   . have:=I.tuple_inj hq' hq;subst this;rw[hx] at hx';cases hx';rfl
   . obtain⟨⟨o,ho,r⟩,_⟩:=hst;show#[o,(hs2.2 it hne.symm)\ho,r]
   . have hb0:=(hf b hb).1;rw[aJ]
     . exact hb0
     . intro z;subst z;let#[o,ho,_]:=hit;rcases HM.mp hb with z|z
       . exact hnS z
       . have z:s.heap.objs.size=it:=↑z
         exact absurd (HU ho) (by rw[<- z]; exact ID _)
 done:=by
   intro X hP hw hK hc i pins s σ H E I hf st hg;subst hP hw hK;obtain⟨⟨old,he⟩,hit⟩:=st;let#[xs,hq,hx]:=hg;let#[its,rv,p,hz]:=I.tuple hq;have pt:s.heap.IsTuple a its.toArray:=p;have hl:=rv.length;have hia:a≠it:=λz=>by
     subst z;let#[o1,h1,c1,_]:=hit;let#[o2,h2,c2,_]:=pt;rw[h1] at h2;cases h2;rw[c1] at c2;injection c2 with c2
     exact absurd c2 #[]
   have hi:i=its.toArray.size:=by simp; lia
   refine wpAny_pyNext_enum_endD (uR (A:=X.A.in1) (I.ok.hd hc) it a hia its.toArray) he (by rw[<- hi]; show#[hit,pt]) λh' eb=>#[rfl,?_]
   exact I.turnedL (t':=s.toks) (ch:=[e,it]) (λb o hb q=>eb b o (λz=>hb (by simp [z])) q) hf
 self:=λ_ _ _ _ _ st h=>by obtain⟨⟨old,he⟩,_⟩:=st;exact JY he h
variable {tb:TS} {σ:St} {H:Hp}
section
variable {X:Cx}
def qV:bootBuiltins "enumerate"=⇑(.type "enumerate"):=Ai
abbrev Ef (K:Kh) (ta:TA):TI:=λσ H R=>ta σ H λvs H1=>∃a,vs=[↥a]/\(∃xs,aN K H1 a xs)/\R (jc K a) H1
def uN {a:Expr} {ta:TA} {p tpos:Pos}{k:Nat} (hg:Gl X "enumerate") (hm:X.mg "enumerate"=none) (ha:PA X [a] ta) (hs:starEach [a] X.env=[(false,eval a X.env)]:=by rfl):PI X (.Tuple elts k tpos) (.Call (.Name "enumerate" p) [a] [] pos) (Ef X.K ta):=by
 intro pins s σ H R I h;refine Call_ (fD I hg hm qV (IF (aW (ha pos pins s σ H _ I h) λus s1 z139_=>?_) hs rfl));let#[vs,H1,I1,r1,q1]:=z139_;obtain⟨a,e,⟨xs,hq⟩,q⟩:=q1;subst e;cases r1 with
 | cons r rr =>
   cases rr;cases r;let#[its,rv,p,hz]:=I1.tuple hq;refine EA (show s1.heap.IsTuple a its.toArray from p) λh' he hit hk=>?_;refine JY he ?_;show#[s1.heap.objs.size+1,[s1.heap.objs.size+1,s1.heap.objs.size],4,H1,rfl,I1.kept (t':=s1.toks) hk,GL a (s1.heap.objs.size+1) s1.heap.objs.size (Nat.succ_ne_self _),#[#[.none,he],hit],λb hb=>?_,q];rcases HM.mp hb with z|z
   . subst z;exact I1.fpOk (JF _) (I1.hok.fresh (JF _))
   . have z:b=s1.heap.objs.size:=↑z
     subst z;exact I1.fpOk (Gw _) (I1.hok.fresh (Gw _))
def qf {a:Kg} {xs:List V} {g:TG} {D:Ends} (Pv:Nat->St->Hp->Prop) (h0:Pv 0 σ H) (hl:∀i σ H,i<=xs.length->Pv i σ H->aN K H a xs)
   (hs:∀i x σ H b,xs[i]?=⇑x->Pv i σ H->H b=none->g ↥b σ (upd H b (.tup [.int i,x])) λσ2 H2=>tb { D with nx:=Pv (i+1),ct:=Pv (i+1),bk:=D.nx } σ2 H2) (hd:∀σ H,Pv xs.length σ H->D.nx σ H) :
   ∃W:Nat->Nat->St->Hp->Prop,(∃m,W 0 m σ H)/\∀i m σ H,W i m σ H->((jc K a).stop i H/\D.nx σ H)\/((jc K a).go i H/\∃N:St->Hp->Prop,(∀σ' H',N σ' H'->∃m',m'<m/\W (i+1) m' σ' H')/\∀x H',(jc K a).yld i H x H'->g x σ H' λσ2 H2=>tb { D with nx:=N,ct:=N,bk:=D.nx } σ2 H2):=by
 show#[λi m σ H=>m=xs.length - i/\i<=xs.length/\Pv i σ H,#[xs.length,by simp,Hj _,h0],?_];rintro i m σ H ⟨rfl,hi,p⟩;have q:=hl i σ H hi p;by_cases hlt:i<xs.length
 . refine .inr #[#[xs,xs[i],q,by simp [hlt]],Pv (i+1),λσ' H' p'=>#[xs.length - (i+1),∅,rfl,hlt,p'],λx H' y=>?_];let#[b,rfl,hb,y]:=y;rw[y xs xs[i] q (by simp [hlt])];exact hs i xs[i] σ H b (by simp [hlt]) p hb
 . have e:i=xs.length:=by lia
   subst e;exact .inl #[#[xs,q,rfl],hd σ H p]
end
section
variable {X:Cx} {pins:List (Kg×Obj)} {σ:St} {H:Hp} {s:Kf}
def Inv.freeze {d:Kg} {kvs:List (aE×V)} (I:Inv X pins σ H s) (e:H d=⇑(.dK kvs)):∃o,s.heap.get? d=⇑o/\Inv X pins σ (upd H d (.frz o (.dK kvs))) s:=by
 obtain⟨z,hd,vs,rel,⟨o,es,ep,ho,r⟩⟩:=I.hok d _ e;show#[o,ho,?_];have nd:∀b u,H b=⇑u->u≠.dK kvs->b≠d:=λb u q n z=>by subst z;rw[e] at q;cases q;exact n rfl
 refine I.step (g':=s.gens) (t':=s.toks) (d':=s.drawn) (h':=s.heap) (ch:=[]) (λ_ z=>nomatch z) (λb o _ _ _ q _=>q) (λb o _ _ _ q _=>#[o.slots,q]) (λb o _ _ n=>?_) (λb o _ q=>#[o,q]) (λb xs q=>?_) (λb o u q=>?_) (λb ps q=>#[(List.toArray []),?_]) (λm hm=>hm) (λb u q=>?_) I.bare
 . rw[aJ (λz=>by subst z; rw[e] at n; cases n)];exact n
 . rw[aJ (nd b _ q 0x6)];exact q
 . rw[aJ (nd b _ q 0x6)];exact q
 . rw[aJ (nd b _ q 0x6),q];simp
 . have own:∀c b,H c=⇑(.own b)->(upd H d (.frz o (.dK kvs))) c=⇑(.own b):=λc b q=>(aJ (nd c _ q 0x6))\q;have tup:∀c xs,H c=⇑(.tup xs)->(upd H d (.frz o (.dK kvs))) c=⇑(.tup xs):=λc xs q=>(aJ (nd c _ q 0x6))\q;by_cases hb:b=d
   . subst hb;rw[aI] at q;cases q;show#[ho,(I.hok _ _ e).stay (λ_ _ _ q=>q) (λc q=>own c _ q) tup]
   . rw[aJ hb] at q;exact(I.hok b u q).stay (λ_ _ _ q=>q) (λc q=>own c _ q) tup
end
def Ft:entryFor table "dict_itemiterator.__iter__"=⇑Builtin.«dict_keyiterator.__iter__»:=entryFor_alias (id':="dict_keyiterator.__iter__") (by kernel_rfl) (by first|rfl|decide +kernel|(unfold String.splitOn; simp +decide [String.splitOnAux])) 0x7 (by kernel_rfl)
abbrev i5 (o:Obj) (d:Kg) (kvs:List (aE×V)):It :=
 #[λi H=>H d=⇑(.frz o (.dK kvs))/\i<kvs.length,λi H y H'=>∃b,y=↥b/\H b=none/\∀kv,kvs[i]?=⇑kv->H'=upd H b (.tup [kV kv.1,kv.2]),λi H=>H d=⇑(.frz o (.dK kvs))/\i=kvs.length]
variable {X:Cx}
def il {pins:List (Kg×Obj)} {s:Kf} {o:Obj} {d:Kg} {kvs:List (aE×V)} (I:Inv X pins σ H s) (e:H d=⇑(.frz o (.dK kvs))) {es0:Array DictEntry} {ep:Nat} (hep:o.data=.dict es0 ep) :
   ∃vs,KV kvs vs/\s.heap.DictAt (c7 X.prog X.w) d vs ep:=by
 obtain⟨h1,z,hd,vs,rel,⟨o',es,ep',ho,hx,hdat,r⟩⟩:=I.hok d _ e;rw[h1] at ho;cases ho;rw[hep] at hdat;cases hdat;show#[vs,rel,o,es0,h1,hx,hep,r]
def zu {P:Program} {k:Nat} (o:Obj) (d it:Kg) (kvs:List (aE×V)) (es0:Array DictEntry) (ep:Nat) (hep:o.data=.dict es0 ep) :
   Turn P w K (.Tuple elts k pos) (i5 o d kvs) [it] it (λi h=>∃ok ov,IsItemIter h it d i kvs.length ep ok ov) where
 mem:=by simp
 obj:=λi h st b hb=>by
   let#[ok,ov,he]:=st;have z:b=it:=↑hb
   subst z;show#[_,he,λv z=>by cases (show Data.fields _=Data.cell v from z)]
 keep:=λi h h' st kk=>by let#[ok,ov,he]:=st;show#[ok,ov,kk it 0xA _ he]
 item:=by
   intro X hP hw hK hc i pins s σ H E I hf st hg;subst hP hw hK;let#[ok,ov,he]:=st;let#[hfz,hi]:=hg;let#[vs,rel,hD]:=il I hfz hep;have hlen:kvs.length=vs.length:=KV.length rel;have hi':i<vs.length:=by lia
   have rk:kvs[i].1=vs[i].1/\ag kvs[i].2 vs[i].2:=kg rel hi hi';refine wpAny_pyNext_items_item (knd:=c7 X.prog X.w) (k:=vs[i].1) (v:=vs[i].2) (kvs:=vs) (by rw[<- hlen]; exact he) hD (by simp [hi']) λkey h' hkey hout hT hsz hk=>?_;show#[5,wpAny_letOwnedTupleGo_items hout λh2 he2 hs2=>?_];have hs2:Heap.SameBut it h' h2:=hs2;have hilt:it<s.heap.objs.size:=HU he;have hnS:s.heap.objs.size≠it:=Ij hilt;have hfr:H s.heap.objs.size=none:=I.hok.fresh (Gw _);have hT2:h2.get? s.heap.objs.size=some { cls:=.type "tuple",data:=.seq (List.toArray [key,vs[i].2]) }:=(hs2.2 _ hnS)\hT;show#[↥s.heap.objs.size,upd H s.heap.objs.size (.tup [kV kvs[i].1,kvs[i].2]),I.turnLaid (t':=s.toks) (ch:=[it]) (λb o hb q=>?_) hf (Gw _) ?_,rfl,#[s.heap.objs.size,rfl,hfr,λkv hkv=>?_],#[4,by rw[hlen]; exact he2],λb hb=>?_]
   . have h1:b≠it:=λz=>hb (by simp [z]);exact(hs2.2 b h1).trans (hk b o h1 q)
   . show#[by show 2<=sizeLine; decide,[key,vs[i].2],.cons (by rw[rk.1]; exact nN hkey) (.cons rk.2 .nil),#[_,hT2,13]]
   . have:kvs[i]=kv:=by simpa [hi] using hkv
     rw[<- this]
   . have z:b=it:=↑hb
     subst z;rw[aJ hnS.symm];exact(hf _ hb).1
 done:=by
   intro X hP hw hK hc i pins s σ H E I hf st hg;subst hP hw hK;let#[ok,ov,he]:=st;let#[hfz,hi]:=hg;let#[vs,rel,hD]:=il I hfz hep;have hlen:kvs.length=vs.length:=KV.length rel;refine wpAny_pyNext_items_end (knd:=c7 X.prog X.w) (kvs:=vs) (I.ok.hd hc) (by rw[<- hlen]; exact he) hD (by simp; lia) λh' eb=>#[rfl,?_]
   exact I.turnedL (t':=s.toks) (ch:=[it]) (λb o hb q=>eb b o (λz=>hb (by simp [z])) q) hf
 self:=λA i s Q E st h=>by
   let#[ok,ov,he]:=st;have hT:s.TypeIs ↥it "dict_itemiterator":=#[_,he,rfl]
   exact wpAny_pyIter_slot hT Jy (IW Jy hT Ft (show wpAny _ _ (ret ↥it) _ _ s from HL #[5,"dict_itemiterator",_,hT,F.slot_dict_itemiterator_next.lookup,h]) (F.args_dict_itemiterator_iter_1 _))
section
variable {X:Cx}
abbrev Dw (td:TE):TI:=λσ H R=>td σ H λx H1=>∃d kvs,x=↥d/\((H1 d=⇑(.dK kvs)/\∀o,R (i5 o d kvs) (upd H1 d (.frz o (.dK kvs))))\/∃o,H1 d=⇑(.frz o (.dK kvs))/\R (i5 o d kvs) H1)
def tT {l:Expr} {td:TE} {apos cpos tpos:Pos} {k:Nat} (hl:PE X l td) (hbase:attributeBase l "items" X.env (eval l X.env)=eval l X.env:=by rfl) (hline:(apos.endLine==cpos.line)=true:=by rfl) :
   PI X (.Tuple elts k tpos) (.Call (.Attribute l "items" apos) [] [] cpos) (Dw td):=by
 intro pins s σ H R I h;refine KU hbase hline (aW (hl pins s σ H _ I h) λv s1 z140_=>?_);let#[x,H1,I1,r1,q1]:=z140_;let#[d,kvs,rfl,q1]:=q1;cases r1;have key:∃o H2,Inv X pins σ H2 s1/\H2 d=⇑(.frz o (.dK kvs))/\R (i5 o d kvs) H2:=by
   rcases q1 with⟨e,q⟩|⟨o,e,q⟩
   . let#[o,ho,I2]:=I1.freeze e;show#[o,_,I2,aI,q o]
   . show#[o,H1,I1,e,q]
 let#[o,H2,I2,e2,q]:=key;let#[ho,z,hd,vs,rel,dd]:=I2.hok d _ e2;let#[o',es,ep,ho',hx,hdat,r]:=id dd;rw[ho] at ho';cases ho';show#["dict","dict.items",JU,KZ,PySem.F.type_dict_items,dd.typeIs,λb q=>?_,Calls.callWith_builtin rfl (PySem.evalArgs_none ?_)]
 . cases q;show#[o,ho,hx.2.1]
 refine call_meetsIn KZ dd.typeIs PySem.F.entry_dict_items (PySem.F.args_dict_items_1 _) (meets_dict_items (c7 X.prog X.w) d hd) #[#[vs,dd],?_];have I3:Inv X pins σ H2 { s1 with heap:=s1.heap.push { cls:=.type "dict_items",data:=.fields (List.toArray [↥d]) } }:=I2.kept (t':=s1.toks) λb o e=>Gr _ e;let#[vs3,rel3,hD3]:=il I3 e2 hdat;refine wpAny_pyIter_items (knd:=c7 X.prog X.w) (kvs:=vs3) (ep:=ep) #[_,HR _ rfl,7] hD3 ?_;have hlen:kvs.length=vs3.length:=KV.length rel3;rw[<- hlen];generalize hh3:s1.heap.push { cls:=.type "dict_items",data:=.fields (List.toArray [↥d]) }=h3 at I3 ⊢;show#[h3.objs.size,[h3.objs.size],4,H2,rfl,I3.kept (t':=s1.toks) λb o e=>Gr _ e,zu o d h3.objs.size kvs es ep hdat,#[4,HR _ rfl],λb hb=>?_,q];have z:b=h3.objs.size:=↑hb
 subst z;exact I3.fpOk (Gw _) (I3.hok.fresh (Gw _))
def rW {o:Obj} {d:Kg} {kvs:List (aE×V)} {g:TG} {D:Ends} (Pv:Nat->St->Hp->Prop) (h0:Pv 0 σ H) (hl:∀i σ H,i<=kvs.length->Pv i σ H->H d=⇑(.frz o (.dK kvs)))
   (hs:∀i kv σ H b,kvs[i]?=⇑kv->Pv i σ H->H b=none->g ↥b σ (upd H b (.tup [kV kv.1,kv.2])) λσ2 H2=>tb { D with nx:=Pv (i+1),ct:=Pv (i+1),bk:=D.nx } σ2 H2) (hd:∀σ H,Pv kvs.length σ H->D.nx σ H) :
   ∃W:Nat->Nat->St->Hp->Prop,(∃m,W 0 m σ H)/\∀i m σ H,W i m σ H->((i5 o d kvs).stop i H/\D.nx σ H)\/((i5 o d kvs).go i H/\∃N:St->Hp->Prop,(∀σ' H',N σ' H'->∃m',m'<m/\W (i+1) m' σ' H')/\∀x H',(i5 o d kvs).yld i H x H'->g x σ H' λσ2 H2=>tb { D with nx:=N,ct:=N,bk:=D.nx } σ2 H2):=by
 show#[λi m σ H=>m=kvs.length - i/\i<=kvs.length/\Pv i σ H,#[kvs.length,by simp,Hj _,h0],?_];rintro i m σ H ⟨rfl,hi,p⟩;have q:=hl i σ H hi p;by_cases hlt:i<kvs.length
 . refine .inr #[#[q,hlt],Pv (i+1),λσ' H' p'=>#[kvs.length - (i+1),∅,rfl,hlt,p'],λx H' y=>?_];let#[b,rfl,hb,y]:=y;rw[y kvs[i] (by simp [hlt])];exact hs i kvs[i] σ H b (by simp [hlt]) p hb
 . have e:i=kvs.length:=by lia
   subst e;exact .inl #[#[q,rfl],hd σ H p]
end
section
variable {X:Cx} {o e f:Expr} {apos cpos:Pos} {td ty tx:TE}
abbrev zt (td ty tx:TE):TE:=λσ H Q=>td σ H λx H1=>∃a,x=↥a/\nV H1 a/\ty σ H1 λy H2=>tx σ H2 λz H3=>∃kvs k,H3 a=⇑(.dK kvs)/\y=kV k/\kvs.length<sizeLine /\
 (∀v,aZ kvs k=⇑v->Q v H3)/\(aZ kvs k=none->Q z (upd H3 a (.dK (aQ kvs k z))))
def yK (ho:PE X o td) (he:PE X e ty) (hf:PE X f tx) (m:M2 X o "setdefault" apos e f cpos):PE X (.Call (.Attribute o "setdefault" apos) [e,f] [] cpos) (zt td ty tx):=by
 intro pins s σ H Q I h;refine wpAny_Call_method m.base m.few m.line JU K4 PySem.F.type_dict_setdefault (aW (ho pins s σ H _ I h) λu s1 z141_=>?_);let#[x,H1,I1,rx,a,ex,d,q1]:=z141_;subst ex;obtain rfl:u=Value.ref a:=rx;let#[t1,t2,_]:=ui I1 d;show#[t1,t2,?_];rw[m.trees];refine Calls.callWith_builtin rfl (Calls.evalArgs_plain (Calls.spliced_cons (aW (he pins s1 σ H1 _ I1 q1) λiv s2 z142_=>z142_.e λy H2 I2 ry q2=>Calls.spliced_cons (aW (hf pins s2 σ H2 _ I2 q2) λfv s3 ⟨z,H3,I3,rz,kvs,k,ea,ey,hl,q3,q4⟩=>Calls.spliced_nil ?_))));subst ey;let#[hz,hd,vs,rel,dd]:=jW I3.hok ea;refine call_meetsIn K4 dd.typeIs PySem.F.entry_dict_setdefault (PySem.F.args_dict_setdefault_3 _ _ _) (kt_meets_setdefault (c7 X.prog X.w) a (fc ry) hd fv) #[vs,dd,by rw[<- rel.length]; exact hz,λv hv=>?_,λhn h' dd' hs=>?_]
 . have rv:=rel.val k;rw[hv] at rv;cases l:aZ kvs k with
   | none=>rw[l] at rv; exact absurd rv 0x6
   | some v' =>
     rw[l] at rv;show#[v',H3,I3.tok _,rv,q3 v' l]
 . have rv:=rel.val k;rw[hn] at rv;have l:aZ kvs k=none:=by
     cases l:aZ kvs k with
     | none=>rfl
     | some v'=>rw[l] at rv; exact absurd rv 0x6
   have hex:∃q,h'.get? a=⇑q:=by let#[q,_,_,hq,_]:=dd'; show#[q,hq]
   have hlp:(aQ kvs k z).length<=sizeLine:=by have:=dN kvs k z; lia
   show#[z,_,jk I3 (by rw[ea]; exact True.intro) hs hex (kU hlp hd (rel.put k rz) dd'),rz,q4 l]
end
abbrev jd (hi:Int) (n:Nat):It:=#[λi _=>i<n,λi H x H'=>H'=H/\x=.int (hi - i),λi _=>n<=i]
def Eh {P:Program} {tg:Expr} (it:Kg) (hi:Int) (n:Nat):Turn P w K tg (jd hi n) [it] it (λi h=>IsRangeIter h it (hi+(i:Nat) * (-1)) ((n:Int) - (i:Nat)) (-1)) where
 mem:=by simp
 obj:=λi h st b hb=>by
   have e:b=it:=↑hb
   subst e;show#[_,st,λv z=>by cases (show Data.fields _=Data.cell v from z)]
 keep:=λi h h' st k=>k it 0xA _ st
 item:=by
   intro X hP hw hK hc i pins s σ H E I hf st hg;subst hP hw hK;refine(Walks.range (prog:=X.prog) (w:=X.w) (I.ok.hd hc) it hi (-1) n).item i s _ _ hg st λv h' tk hv st' kk=>?_;let#[t,rfl]:=hv;have I1:Inv X pins σ H { s with heap:=h',toks:=tk }:=I.turnedL (ch:=[it]) (λb o hb e=>kk b o hb e) hf;have e:hi+(i:Int) * (-1)=hi - (i:Int):=by lia
   show#[5,mN (s:={ s with heap:=h',toks:=tk }) (n:="range_iterator") st' rfl rfl #[] #[.int (hi - i),H,I1,#[t,by rw[e]],#[7],st',λb hb=>(hf b hb).1]]
 done:=by intro X hP hw hK hc i pins s σ H E I hf st hg;subst hP hw hK;exact wpAny_pyNext_range_end (I.ok.hd hc) st (by have:n<=i:=hg; lia) λh' eb=>#[rfl,I.turnedL (t':=s.toks) (ch:=[it]) (λb o hb e=>eb b o (λz=>hb (by simp [z])) e) hf]
 self:=λ_ _ _ _ _ st h=>wpAny_pyIter_rangeiter st h
def rN (a b:Int):Builtin.Range.rangeSize a b (-1)=if b<a then a - b else 0:=by
 unfold Builtin.Range.rangeSize;rw[Gu #[]];have:(-(-1):Int)=1:=by decide
 rw[this];rw[Int.ediv_one];by_cases h:b<a
 . rw[HI h,HI h]; lia
 . rw[Gu h,Gu h]
def Cg {a b:Int} (ha:-(2 ^ 60)<=a) (ha':a<2 ^ 60) (hb:-(2 ^ 60)<=b) (hb':b<2 ^ 60):Builtin.Range.small a b (-1)=true:=by
 unfold Builtin.Range.small;rw[rN];simp only[Builtin.Range.rangeFitsLong,Ho,Ka,Ie,Kb,show ¬ ((-1:Int) > 0) by decide,if_false];by_cases h:b<a
 . simp only[HI h]; lia
 . simp only[Gu h]; lia
variable {n:Nat}
section
variable {X:Cx} {tg:Expr}
abbrev Dh (ta:TA):TI:=λσ H R=>ta σ H λvs H1=>∃i j:Int,vs=[.int i,.int j,.int (-1)]/\(-(2 ^ 60)<=i/\i<2 ^ 60/\-(2 ^ 60)<=j/\j<2 ^ 60)/\R (jd i (i - j).toNat) H1
def DV {a b c:Expr} {ta:TA} {p:Pos}(hg:Gl X "range") (hm:X.mg "range"=none) (ha:PA X [a,b,c] ta) (hs:starEach [a,b,c] X.env=(false,eval a X.env)::starEach [b,c] X.env:=by rfl) (hs2:(backTo pos (starEach [b,c] X.env)).any (·.1)=false:=by rfl) :
   PI X tg (.Call (.Name "range" p) [a,b,c] [] pos) (Dh ta):=by
 intro pins s σ H R I h;refine Call_ (fD I hg hm boot_range (IF (aW (ha pos pins s σ H _ I h) λus s1 z144_=>?_) hs hs2));let#[vs,H1,I1,r1,q1]:=z144_;obtain⟨i,j,e,⟨q1,q2,q3,q4⟩,q⟩:=q1;subst e;cases r1 with
 | cons r rr =>
   cases rr with
   | cons r' rr =>
     cases rr with
     | cons r'' rr =>
       cases rr;let#[t,rfl]:=r;let#[t',rfl]:=r';let#[t'',rfl]:=r'';refine call_range_3 #[] ?_ (.inl (PyProof.noPylong_small ∅));refine wpAny_pyIter_range (IsRange.new ..) (Cg q1 q2 q3 q4) ?_;have I2:Inv X pins σ H1 { s1 with heap:=s1.heap.push { cls:=.type "range",data:=.fields (List.toArray [.int i t,.int j t',.int (-1) t'']) },toks:=s1.toks }:=I1.kept λb o e=>Gr _ e;show#[_,[(s1.heap.push { cls:=.type "range",data:=.fields (List.toArray [.int i t,.int j t',.int (-1) t'']) }).objs.size],4,H1,rfl,I2.kept (t':=s1.toks) λb o e=>Gr _ e,Eh _ i (i - j).toNat,?_,λb hb=>?_,q]
       . have e1:i+((0:Nat):Int) * (-1)=i:=by lia
         have e2:(((i - j).toNat:Nat):Int) - ((0:Nat):Int)=Builtin.Range.rangeSize i j (-1):=by rw[rN]; split <;> lia
         show IsRangeIter _ _ (i+((0:Nat):Int) * (-1)) ((((i - j).toNat:Nat):Int) - ((0:Nat):Int)) (-1);rw[e1,e2];exact HR _ rfl
       . have e:b=(s1.heap.push { cls:=.type "range",data:=.fields (List.toArray [.int i t,.int j t',.int (-1) t'']) }).objs.size:=↑hb
         subst e;exact I2.fpOk (Gw _) (I2.hok.fresh (Gw _))
def zP {hi:Int} {g:TG} {D:Ends} (Pv:Nat->St->Hp->Prop) (h0:Pv 0 σ H) (hs:∀i σ H,i<n->Pv i σ H->g (.int (hi - i)) σ H λσ2 H2=>tb { D with nx:=Pv (i+1),ct:=Pv (i+1),bk:=D.nx } σ2 H2) (hd:∀σ H,Pv n σ H->D.nx σ H) :
   ∃W:Nat->Nat->St->Hp->Prop,(∃m,W 0 m σ H)/\∀i m σ H,W i m σ H->((jd hi n).stop i H/\D.nx σ H)\/((jd hi n).go i H/\∃N:St->Hp->Prop,(∀σ' H',N σ' H'->∃m',m'<m/\W (i+1) m' σ' H')/\∀x H',(jd hi n).yld i H x H'->g x σ H' λσ2 H2=>tb { D with nx:=N,ct:=N,bk:=D.nx } σ2 H2):=by
 show#[λi m σ H=>m=n - i/\i<=n/\Pv i σ H,#[n,by simp,Hj _,h0],?_];rintro i m σ H ⟨rfl,hi',p⟩;by_cases hlt:i<n
 . refine .inr #[hlt,Pv (i+1),λσ' H' p'=>#[n - (i+1),∅,rfl,hlt,p'],λx H' y=>?_];let#[e,y]:=y;subst e y;exact hs i σ _ hlt p
 . have e:i=n:=by lia
   subst e;exact .inl #[Gw _,hd σ H p]
end
def rE {st:Stmt} {rest:List Stmt} {t u:TS} (h1:PS X st t) (h2:aV X rest u):aV X (st::rest) (λD σ H=>∃M:St->Hp->Prop,t { D with nx:=M } σ H/\∀σ' H',M σ' H'->u D σ' H'):=by
 intro pins s σ H D I h;let#[M,h,hm]:=h;refine KN (aW (h1 pins s σ H { D with nx:=M } I h) λf s1 q=>?_);cases f with
 | next =>
   let#[σ',H',I',q]:=q;exact h2 pins s1 σ' H' D I' (hm _ _ q)
 | ret v=>exact q
 | brk=>exact q
 | cont=>exact q
abbrev FC (K:Kh):R2:=λx y H Q=>∃a b xs,x=↥a/\y=↥b/\aG K H a xs/\aG K H b []/\Q (.bl (decide (xs=[]))) H
def oV (hu:X.A.units+64<cLine):bU X (compareOp .Eq) (FC X.K):=by
 intro pins s σ H x y v u Q I rx ry h;let#[a,b,xs,rfl,rfl,hA,hB,q]:=h;cases rx;cases ry;let#[its,r1,p1,_]:=I.list hA;let#[its2,r2,p2,_]:=I.list hB;have e2:its2=[]:=r2.nil_iff.mpr rfl;subst e2;by_cases hx:xs=[]
 . have e1:its=[]:=r1.nil_iff.mpr hx;subst e1;refine SeqAt.eq_listAt (e:=λ_=>true) p1.isList p2.isList rfl ∅ (λi h=>absurd h (Iz i)) ?_;rw[HJ hx] at q;show#[.bl true,H,I,rfl,q]
 . have hne:(its.toArray.size != ([]:List Ke).toArray.size)=true:=by
     have:its≠[]:=λz=>hx (r1.nil_iff.mp z);cases its with
     | nil=>exact absurd rfl this
     | cons a b=>rfl
   refine SeqAt.eq_list_lengthsAt p1.isList p2.isList hne ∅ ?_;rw[Hg hx] at q;show#[.bl false,H,I,rfl,q]
def tP :bU X (compareOp .Is) (λx y H Q=>∃a b,x=.bl a/\y=.bl b/\Q (.bl (decide (a=b))) H):=by intro pins s σ H x y v u Q I rx ry h;let#[a,b,rfl,rfl,q]:=h;cases rx;cases ry;exact wpAny_is_plain rfl (bv I q (by cases a <;> cases b <;> rfl))
abbrev bp (n:Nat) (d:PyData):Prop:=PyData.canLay0 d=true/\PyData.depth d<=n
def bp.int (i:Int):bp n (.int i):=#[by unfold PyData.canLay0; rfl,by unfold PyData.depth; exact Hj _]
def bp.bool (b:Bool):bp n (.bool b):=#[by unfold PyData.canLay0; rfl,by unfold PyData.depth; exact Hj _]
def bp.none :bp n .none:=#[by unfold PyData.canLay0; rfl,by unfold PyData.depth; exact Hj _]
def bp.str {x:Str} (h:PyData.strOk x=true):bp n (.str x):=#[by unfold PyData.canLay0; exact h,by unfold PyData.depth; exact Hj _]
def nB {n:Nat}:∀{ds:List PyData},(∀d∈ds,bp n d)->PyData.canLayAll0 ds=true/\PyData.depthAll ds<=n
 | [],_=>#[by unfold PyData.canLayAll0; rfl,by unfold PyData.depthAll; exact Hj _]
 | d::ds,h=>by
   have h1:=h d HH;have h2:=nB (λx hx=>h x (Gz _ hx));constructor
   . unfold PyData.canLayAll0; rw[h1.1,h2.1]; rfl
   . unfold PyData.depthAll; exact Nat.max_le.mpr #[h1.2,h2.2]
def bp.list {ds:List PyData} (h:∀d∈ds,bp n d):bp (n+1) (.list ds):=by have h2:=nB h;show#[by unfold PyData.canLay0; exact h2.1,by unfold PyData.depth; have:=h2.2; lia]
def bp.tuple {ds:List PyData} (h:∀d∈ds,bp n d):bp (n+1) (.tuple ds):=by have h2:=nB h;show#[by unfold PyData.canLay0; exact h2.1,by unfold PyData.depth; have:=h2.2; lia]
def bp.shaped {n:Nat} {d:PyData} (h:bp n d) (hn:n<=64):SeqAt.shaped d=true:=by unfold SeqAt.shaped;rw[h.1,HJ (Hf h.2 hn)];rfl
def bp.refl {d:PyData} (h:bp n d):PyData.eqv d d=true:=SeqAt.eqv_refl d h.1
def bp.mono {m:Nat}{d:PyData} (h:bp n d) (hn:n<=m):bp m d:=#[h.1,Hf h.2 hn]
def CS {x y:V} {Q:VK} {d:PyData} (hn:n<=64) (l:bp n d) (hx:bP K H d x) (hy:bP K H d y) (q:Q (.bl true) H):oh K x y H Q :=
 #[d,d,hx,hy,l.shaped hn,l.shaped hn,by rw[l.refl]; exact q]
def kz {x y:V} {Q:VK} {d:PyData} (hn:n<=64) (l:bp n d) (hx:bP K H d x) (hy:bP K H d y) (q:Q (.bl false) H):uc K x y H Q :=
 #[d,d,hx,hy,l.shaped hn,l.shaped hn,by rw[l.refl]; exact q]
mutual
theorem bP.mono {K:Kh} {H H':Hp} (e:aB H H'):∀(d:PyData) (v:V),bP K H d v->bP K H' d v
 | .none,v,h=>by unfold bP at h ⊢; exact h
 | .bool b,v,h=>by unfold bP at h ⊢; exact h
 | .int i,v,h=>by unfold bP at h ⊢; exact h
 | .str x,v,h=>by unfold bP at h ⊢; exact h
 | .list ds,v,h=>by unfold bP at h ⊢;let#[a,xs,rfl,hq,hd]:=h;show#[a,xs,rfl,e.seq hq,cJ.mono e ds xs hd]
 | .tuple ds,v,h=>by unfold bP at h ⊢;let#[a,xs,rfl,hq,hd]:=h;show#[a,xs,rfl,e<*hq,cJ.mono e ds xs hd]
 | .dict _,v,h=>by unfold bP at h; exact h.elim
theorem cJ.mono {K:Kh} {H H':Hp} (e:aB H H'):∀(ds:List PyData) (xs:List V),cJ K H ds xs->cJ K H' ds xs
 | [],xs,h=>by unfold cJ at h ⊢; exact h
 | d::ds,xs,h=>by unfold cJ at h ⊢;let#[x,r,rfl,hd,hds]:=h;show#[x,r,rfl,bP.mono e d x hd,cJ.mono e ds r hds]
end
abbrev ers (l:Kg) (H:Hp):Hp:=λb=>if b=l then none else H b
def cy {l b:Kg} (h:b≠l):ers l H b=H b:=by unfold ers; rw[Gu h]
def kC {l:Kg} :aB (ers l H) H:=λb o h=>by
 unfold ers at h;split at h
 . cases h
 . exact h
def aB.ers {l:Kg} {H H':Hp} (e:aB H H'):aB (ers l H) (ers l H'):=λb o h=>by
 unfold L2.ers at h ⊢;split at h
 . cases h
 . rename_i hb
   rw[Gu hb];exact e b o h
end L2
namespace Gx
open PySem L2
def cM:0<=sizeLine:=by decide
def d6:1<=sizeLine:=by decide
def bE:2<=sizeLine:=by decide
def jX:3<=sizeLine:=by decide
def gO:4<=sizeLine:=by decide
def nF:5<=sizeLine:=by decide
def aP {x:V} {r:List V}:bD (x::r) 0=⇑x:=by unfold bD d9;rw[HI #[],HI 0xA];rfl
def vq {Q:VK} {H:Hp} {x y:V} (h:x=y) (q:Q y H):Q x H:=by subst h; exact q
def Fy:((2:Int) ^ (48:Int).toNat)=281474976710656:=by decide
def EY:(0:Int)<(2:Int) ^ (48:Int).toNat:=by decide
def cq (z n:Int) (h:0<n):0<=z%n/\z%n<n:=#[Int.emod_nonneg _ ∅,Int.emod_lt_of_pos _ h]
def cb {α:Type} {es:List α} {f:α->V} {i:Nat} {x:V} (h:(es.map f)[i]?=⇑x):∃e,es[i]?=⇑e/\e∈es/\x=f e:=by
 rw[HV] at h;cases he:es[i]? with
 | none=>rw[he] at h; cases h
 | some e=>rw[he] at h; cases h; show#[e,rfl,He he,rfl]
end Gx
namespace L2
open PySem PySem.Spec PyProof.Rows
abbrev Ac (K:Kh) (ta:TE):TT:=λσ H Q=>ta σ H λx H'=>∃k,nr K x H' k/\Q k H'
def Bw {X:Cx} {K:Kh} {a:Expr} {ta:TE} (hK:X.K=K) (ha:PE X a ta) (he:∀whole,isTrue a X.env whole=(do let v <- whole; standAt a.pos; holding [v] (truthy v))):PT X a (Ac K ta):=by subst hK;exact yp ha he
end L2
namespace Gx
open PySem L2
abbrev tx (l:List Nat):Str:=#[l.toArray]
def om (l:List Nat):(tx l).cps.toList=l:=by unfold tx; simp
def AN (l:List Nat):(tx l).length=l.length:=by unfold tx Str.length; simp
def zh {a b:List Nat} (h:tx a=tx b):a=b:=by rw[<- om a,h,om]
end Gx
namespace L2
open PySem PySem.Spec PyProof.Rows
abbrev jS (K:Kh) (a:Kg):It :=
 #[λi H=>∃xs x,aG K H a xs/\xs[i]?=⇑x,λi H y H'=>∃b,y=↥b/\H b=none/\∀xs x,aG K H a xs->xs[i]?=⇑x->H'=upd H b (.tup [.int i,x]),λi H=>∃xs,aG K H a xs/\xs.length=i]
def E5 {P:Program} {w:World} {K:Kh} {elts:List Expr} {k:Nat} {pos:Pos} (a e it:Kg) (hne:e≠it):Turn P w K (.Tuple elts k pos) (jS K a) [e,it] e (λi h=>(∃old,IsEnum h e it i old)/\h.IsListIter it a i) where
 mem:=by simp
 obj:=λi h st b hb=>by
   obtain⟨⟨old,he⟩,⟨o,ho,hc,hd⟩⟩:=st;rcases HM.mp hb with z|z
   . subst z;show#[_,he,λv z=>by cases (show Data.fields _=Data.cell v from z)]
   . have z:b=it:=↑z
     subst z;show#[o,ho,λv z=>by rw[hd] at z; cases z]
 keep:=λi h h' st kk=>by obtain⟨⟨old,he⟩,⟨o,ho,r⟩⟩:=st;show#[#[old,kk e 0xA _ he],#[o,kk it 0xA o ho,r]]
 item:=by
   intro X hP hw hK hc i pins s σ H E I hf st hg;subst hP hw hK;obtain⟨⟨old,he⟩,hit⟩:=st;let#[xs,x,hq,hx]:=hg;let#[its,rv,p,hz]:=I.list hq;have pt:s.heap.IsList a its.toArray:=p.isList;let#[u,hu,ru]:=rv.get hx;have hia:a≠it:=λz=>by
     subst z;let#[o1,h1,c1,_]:=hit;let#[o2,h2,c2,_]:=pt;rw[h1] at h2;cases h2;rw[c1] at c2;injection c2 with c2
     exact absurd c2 #[]
   have hea:e ∉ [it,a]:=λz=>by
     rcases HM.mp z with z|z
     . exact hne z
     . have z:e=a:=↑z
       subst z;let#[o2,h2,c2,_]:=pt;rw[he] at h2;cases h2;injection (show Value.type "enumerate"=Value.type "list" from c2) with c2
       exact absurd c2 #[]
   have hlt:i<its.toArray.size:=by have:=(Gq.mp hu).1;simpa using this
   refine KY (Draws.list (A:=X.A.in1) (I.ok.hd hc) it a hia its.toArray) he #[hit,pt] hlt hne hea λy h' tk hy hout hst hT hsz hk=>?_;show#[5,KC hout λh2 he2 hs2=>?_];have hs2:Heap.SameBut e h' h2:=hs2;have hyu:y=u:=by
     have hy:its.toArray[i]?=⇑y:=hy;have:its[i]?=⇑y:=↑hy
     rw[hu] at this;exact(Option.some.inj this).symm
   subst hyu;have helt:e<s.heap.objs.size:=HU he;have hfr:H s.heap.objs.size=none:=I.hok.fresh (Gw _);have hnS:s.heap.objs.size≠e:=Ij helt;have hT2:h2.get? s.heap.objs.size=some { cls:=.type "tuple",data:=.seq (List.toArray [.int i tk,y]) }:=(hs2.2 _ hnS)\hT;show#[↥s.heap.objs.size,upd H s.heap.objs.size (.tup [.int i,x]),I.turnLaid (t':=tk+1) (ch:=[e,it]) (λb o hb q=>?_) hf (Gw _) ?_,rfl,#[s.heap.objs.size,rfl,hfr,λxs' x' hq' hx'=>?_],#[#[y,by exact_mod_cast he2],?_],λb hb=>?_]
   . have h1:b≠e:=λz=>hb (by simp [z]);have h3:b≠it:=λz=>hb (by simp [z]);exact(hs2.2 b h1).trans (hk b o h1 h3 q)
   . show#[by show 2<=sizeLine; decide,[.int i tk,y],.cons #[tk,rfl] (.cons ru .nil),#[_,hT2,13]]
   . have:=I.list_inj hq' hq;subst this;rw[hx] at hx';cases hx';rfl
   . obtain⟨⟨o,ho,r⟩,_⟩:=hst;show#[o,(hs2.2 it hne.symm)\ho,r]
   . have hb0:=(hf b hb).1;rw[aJ]
     . exact hb0
     . intro z;subst z;let#[o,ho,_]:=hit;rcases HM.mp hb with z|z
       . exact hnS z
       . have z:s.heap.objs.size=it:=↑z
         exact absurd (HU ho) (by rw[<- z]; exact ID _)
 done:=by
   intro X hP hw hK hc i pins s σ H E I hf st hg;subst hP hw hK;obtain⟨⟨old,he⟩,hit⟩:=st;let#[xs,hq,hx]:=hg;let#[its,rv,p,hz]:=I.list hq;have pt:s.heap.IsList a its.toArray:=p.isList;have hl:=rv.length;have hia:a≠it:=λz=>by
     subst z;let#[o1,h1,c1,_]:=hit;let#[o2,h2,c2,_]:=pt;rw[h1] at h2;cases h2;rw[c1] at c2;injection c2 with c2
     exact absurd c2 #[]
   have hi:i=its.toArray.size:=by simp; lia
   refine wpAny_pyNext_enum_endD (Draws.list (A:=X.A.in1) (I.ok.hd hc) it a hia its.toArray) he (by rw[<- hi]; show#[hit,pt]) λh' eb=>#[rfl,?_]
   exact I.turnedL (t':=s.toks) (ch:=[e,it]) (λb o hb q=>eb b o (λz=>hb (by simp [z])) q) hf
 self:=λ_ _ _ _ _ st h=>by obtain⟨⟨old,he⟩,_⟩:=st;exact JY he h
section
variable {X:Cx}
abbrev Ab (K:Kh) (ta:TA):TI:=λσ H R=>ta σ H λvs H1=>∃a,vs=[↥a]/\(∃xs,aG K H1 a xs)/\R (jS K a) H1
def m5 {a:Expr} {ta:TA} {p pos tpos:Pos} {elts:List Expr} {k:Nat} (hg:Gl X "enumerate") (hm:X.mg "enumerate"=none) (ha:PA X [a] ta) (hs:starEach [a] X.env=[(false,eval a X.env)]:=by rfl):PI X (.Tuple elts k tpos) (.Call (.Name "enumerate" p) [a] [] pos) (Ab X.K ta):=by
 intro pins s σ H R I h;refine Call_ (fD I hg hm qV (IF (aW (ha pos pins s σ H _ I h) λus s1 z149_=>?_) hs rfl));let#[vs,H1,I1,r1,q1]:=z149_;obtain⟨a,e,⟨xs,hq⟩,q⟩:=q1;subst e;cases r1 with
 | cons r rr =>
   cases rr;cases r;let#[its,rv,p,hz]:=I1.list hq;refine call_enumerate_list p.isList λh' he hit _ hk=>?_;refine JY he ?_;show#[s1.heap.objs.size+1,[s1.heap.objs.size+1,s1.heap.objs.size],4,H1,rfl,I1.kept (t':=s1.toks) hk,E5 a (s1.heap.objs.size+1) s1.heap.objs.size (Nat.succ_ne_self _),#[#[.none,he],hit],λb hb=>?_,q];rcases HM.mp hb with z|z
   . subst z;exact I1.fpOk (JF _) (I1.hok.fresh (JF _))
   . have z:b=s1.heap.objs.size:=↑z
     subst z;exact I1.fpOk (Gw _) (I1.hok.fresh (Gw _))
def lA {K:Kh} {a:Kg} {xs:List V} {g:TG} {tb:TS} {D:Ends} {σ:St} {H:Hp} (Pv:Nat->St->Hp->Prop) (h0:Pv 0 σ H) (hl:∀i σ H,i<=xs.length->Pv i σ H->aG K H a xs)
   (hs:∀i x σ H b,xs[i]?=⇑x->Pv i σ H->H b=none->g ↥b σ (upd H b (.tup [.int i,x])) λσ2 H2=>tb { D with nx:=Pv (i+1),ct:=Pv (i+1),bk:=D.nx } σ2 H2) (hd:∀σ H,Pv xs.length σ H->D.nx σ H) :
   ∃W:Nat->Nat->St->Hp->Prop,(∃m,W 0 m σ H)/\∀i m σ H,W i m σ H->((jS K a).stop i H/\D.nx σ H)\/((jS K a).go i H/\∃N:St->Hp->Prop,(∀σ' H',N σ' H'->∃m',m'<m/\W (i+1) m' σ' H')/\∀x H',(jS K a).yld i H x H'->g x σ H' λσ2 H2=>tb { D with nx:=N,ct:=N,bk:=D.nx } σ2 H2):=by
 show#[λi m σ H=>m=xs.length - i/\i<=xs.length/\Pv i σ H,#[xs.length,by simp,Hj _,h0],?_];rintro i m σ H ⟨rfl,hi,p⟩;have q:=hl i σ H hi p;by_cases hlt:i<xs.length
 . refine .inr #[#[xs,xs[i],q,by simp [hlt]],Pv (i+1),λσ' H' p'=>#[xs.length - (i+1),∅,rfl,hlt,p'],λx H' y=>?_];let#[b,rfl,hb,y]:=y;rw[y xs xs[i] q (by simp [hlt])];exact hs i xs[i] σ H b (by simp [hlt]) p hb
 . have e:i=xs.length:=by lia
   subst e;exact .inl #[#[xs,q,rfl],hd σ H p]
end
end L2
namespace PySem
open Sem (wp)
abbrev bu (b:Bool) (h:Heap) (it l:Kg) (k:Nat):Prop:=match b with|true=>h.IsTupleIter it l k|false=>h.IsListIter it l k
abbrev cT (b:Bool) (h:Heap) (l:Kg) (xs:Array Ke):Prop:=match b with|true=>h.IsTuple l xs|false=>h.IsList l xs
variable {b:Bool} {h h':Heap} {it l:Kg}
def bu.at {k:Nat} (p:bu b h it l k) (e:∀o,h.get? it=⇑o->h'.get? it=⇑o):bu b h' it l k:=by cases b <;> (let#[o,ho,r]:=p; show#[o,e o ho,r])
variable {xs:Array Ke}
def cT.at (p:cT b h l xs) (e:∀o,h.get? l=⇑o->h'.get? l=⇑o):cT b h' l xs:=by cases b <;> (let#[o,ho,r]:=p; show#[o,e o ho,r])
def bu.extBut {c:Kg}{k:Nat} (p:bu b h it l k) (e:Heap.ExtBut c h h') (n:it≠c):bu b h' it l k:=p.at λo ho=>e _ _ n ho
def cT.extBut {c:Kg}(p:cT b h l xs) (e:Heap.ExtBut c h h') (n:l≠c):cT b h' l xs:=p.at λo ho=>e _ _ n ho
def bu.lt {k:Nat} (p:bu b h it l k):it<h.objs.size:=by cases b <;> (let#[o,ho,r]:=p; exact HU ho)
variable {b1 b2:Bool} {z i1 i2 l1 l2:Kg} {k1 k2:Nat} {ys:Array Ke} {a:Ke}
section
variable {prog:Program} {w:World} {A:Around} {E:Ke->Kf->Prop} {s:Kf}
def me {i:Nat} {items:Array Ke} {x:Ke} {Q:Ke->Kf->Prop} (p:bu b s.heap it l i) (q:cT b s.heap l items) (hx:items[i]?=⇑x)
   (hQ:∀h',bu b h' it l (i+1)->Heap.SameBut it s.heap h'->Q x { s with heap:=h' }):wpAny (model prog w) A (Builtin.SmallTypes.nextOf ↥it) Q E s:=by
 cases b with
 | true=>exact L2.gx_nextOf_tup p q hx hQ
 | false=>exact JA p q hx hQ
def uL {i:Nat} {items:Array Ke} {Q:Ke->Kf->Prop} (hh:A.handled=none) (p:bu b s.heap it l i) (q:cT b s.heap l items) (hx:items[i]?=none)
   (hE:∀h' e,Heap.ExtBut it s.heap h'->(∃o,h'.get? e=⇑o/\o.cls=.type "StopIteration")->E ↥e { s with heap:=h' }):wpAny (model prog w) A (Builtin.SmallTypes.nextOf ↥it) Q E s:=by
 cases b with
 | true=>exact L2.gx_nextOf_tup_end hh p q hx hE
 | false=>exact wpAny_nextOf_list_end hh p q hx hE
def Br {TI TO:Kg}{x y b:Ke}{Q:Ke->Kf->Prop} (D:ZipApart z TI TO i1 i2 l1 l2)
   (zZ:IsZip s.heap z TI TO .none) (zI:IsPair s.heap TI ↥i1 ↥i2) (zO:IsPair s.heap TO a b)
   (p1:bu b1 s.heap i1 l1 k1) (p2:bu b2 s.heap i2 l2 k2) (q1:cT b1 s.heap l1 xs) (q2:cT b2 s.heap l2 ys) (hx:xs[k1]?=⇑x) (hy:ys[k2]?=⇑y)
   (hQ:∀h',IsZip h' z TI TO (rawInt s.heap.objs.size)->IsPair h' TO x y->bu b1 h' i1 l1 (k1+1)->bu b2 h' i2 l2 (k2+1)->IsPair h' s.heap.objs.size x y->h'.objs.size=s.heap.objs.size+1 ->
     (∀c o,c≠z->c≠TO->c≠i1->c≠i2->s.heap.get? c=⇑o->h'.get? c=⇑o)->Q ↥s.heap.objs.size { s with heap:=h' }) :
   wpAny (model prog w) A (Builtin.«zip.__next__» #[[↥z],[]]) (λfin s'=>∃v,fin=.done (.ret v)/\Q v s') E s:=by
 show wpAny _ _ (field ↥z 2 >>= _) _ _ _; refine Gp (IA zZ rfl (x:=.bool false) rfl ?_); show wpAny _ _ (field ↥z 3 >>= _) _ _ _; refine Gp (IA zZ rfl (x:=↥TI) rfl ?_); refine Gp (IN zI rfl ?_); show wpAny _ _ (Builtin.SmallTypes.ownedTupleIsFree ↥z >>= _) _ _ _; refine Gp ?_; unfold Builtin.SmallTypes.ownedTupleIsFree; refine Gp (IA zZ rfl (x:=.none) rfl (HL ?_)); simp only[if_true]; refine Gp (JT ?_); refine Gp (IA zZ rfl (x:=↥TO) rfl ?_);refine Gp (IL zZ 0xA λh₁ zZ₁ hs₁=>?_); replace zZ₁:IsZip h₁ z TI TO .ellipsis:=zZ₁; refine Gp ?_; simp only[Ji,Jv,JI,K5];refine Gp (Gp (J2 ?_)); show wpAny _ _ (Builtin.SmallTypes.nextOf ↥i1 >>= _) _ _ _; refine Gp (me (p1.extBut hs₁.extBut D.i1z) (q1.extBut hs₁.extBut D.l1z) hx λh₂ h1₂ hs₂=>HL ?_); have hTO₂:IsPair h₂ TO a b:=hs₂.extBut _ _ D.TOi1 (hs₁.extBut _ _ D.TOz zO); refine Gp (IN hTO₂ rfl ?_); refine Gp (Jw hTO₂ λh₃ hTO₃ hs₃=>?_); replace hTO₃:IsPair h₃ TO x b:=hTO₃; refine Gp (Jd (HL ?_))
 refine Gp (Gp (J2 ?_)); show wpAny _ _ (Builtin.SmallTypes.nextOf ↥i2 >>= _) _ _ _; refine Gp (me (((p2.extBut hs₁.extBut D.i2z).extBut hs₂.extBut D.i12.symm).extBut hs₃.extBut D.TOi2.symm)
   (((q2.extBut hs₁.extBut D.l2z).extBut hs₂.extBut D.l2i1).extBut hs₃.extBut D.l2TO) hy λh₄ h2₄ hs₄=>HL ?_)
 have hTO₄:IsPair h₄ TO x b:=hs₄.extBut _ _ D.TOi2 hTO₃; refine Gp (IN hTO₄ rfl ?_); refine Gp (Jw hTO₄ λh₅ hTO₅ hs₅=>?_); replace hTO₅:IsPair h₅ TO x y:=hTO₅; refine Gp (Jd (HL (HL ?_)));refine Gp (IN hTO₅ rfl ?_); refine Gp (wpAny_newTuple ?_); have hsz:h₅.objs.size=s.heap.objs.size:=(by rw[hs₅.1,hs₄.1,hs₃.1,hs₂.1,hs₁.1]); have hz₅:IsZip h₅ z TI TO .ellipsis:=hs₅.extBut _ _ D.TOz.symm (hs₄.extBut _ _ D.i2z.symm (hs₃.extBut _ _ D.TOz.symm (hs₂.extBut _ _ D.i1z.symm zZ₁))); have hk₅:∀c o,c≠z->c≠TO->c≠i1->c≠i2->s.heap.get? c=⇑o->h₅.get? c=⇑o:=λc o c1 c2 c3 c4 e =>
   hs₅.extBut _ _ c2 (hs₄.extBut _ _ c4 (hs₃.extBut _ _ c2 (hs₂.extBut _ _ c3 (hs₁.extBut _ _ c1 e))))
 have h1₅:bu b1 h₅ i1 l1 (k1+1):=((h1₂.extBut hs₃.extBut D.TOi1.symm).extBut hs₄.extBut D.i12).extBut hs₅.extBut D.TOi1.symm; have h2₅:bu b2 h₅ i2 l2 (k2+1):=h2₄.extBut hs₅.extBut D.TOi2.symm; have hzlt:z<h₅.objs.size:=HU hz₅; have hTOlt:TO<h₅.objs.size:=HU hTO₅; have hi1lt:i1<h₅.objs.size:=bu.lt h1₅; have hi2lt:i2<h₅.objs.size:=bu.lt h2₅; show wpAny _ _ (Builtin.SmallTypes.ownedTupleHandOut ↥z ↥h₅.objs.size >>= _) _ _ _; refine Gp ?_; unfold Builtin.SmallTypes.ownedTupleHandOut; have hz₆:IsZip (h₅.push { cls:=.type "tuple",data:=.seq (List.toArray [x,y]) }) z TI TO .ellipsis:=Gr _ hz₅
 refine Gp (IL hz₆ 0xA λh₇ hz₇ hs₇=>?_); replace hz₇:IsZip h₇ z TI TO (rawInt h₅.objs.size):=hz₇; refine IL hz₇ 0xA λh₈ hz₈ hs₈=>?_; replace hz₈:IsZip h₈ z TI TO (rawInt h₅.objs.size):=hz₈; have up:∀c o,c≠z->h₅.get? c=⇑o->h₈.get? c=⇑o:=λc o c1 e=>hs₈.extBut _ _ c1 (hs₇.extBut _ _ c1 (Gr _ e)); have hT₈:IsPair h₈ h₅.objs.size x y:=hs₈.extBut _ _ (Ij hzlt) (hs₇.extBut _ _ (Ij hzlt) (HR _ rfl)); have hz8:h₈.objs.size=h₅.objs.size+1:=(by rw[hs₈.1,hs₇.1,IM])
 rw[hsz] at hz₈ hT₈ hz8;refine HL #[5,?_]; show Q ↥h₅.objs.size _;rw[hsz];exact hQ h₈ hz₈ (up _ _ D.TOz hTO₅) (h1₅.at λo e=>up _ o D.i1z e) (h2₅.at λo e=>up _ o D.i2z e) hT₈ hz8 λc o c1 c2 c3 c4 e=>up c o c1 (hk₅ c o c1 c2 c3 c4 e)
def G8 {TI TO:Kg}{b:Ke}{Q:Fin->Kf->Prop} (hh:A.handled=none) (D:ZipApart z TI TO i1 i2 l1 l2)
   (zZ:IsZip s.heap z TI TO .none) (zI:IsPair s.heap TI ↥i1 ↥i2) (zO:IsPair s.heap TO a b)
   (p1:bu b1 s.heap i1 l1 k1) (p2:bu b2 s.heap i2 l2 k2) (q1:cT b1 s.heap l1 xs) (q2:cT b2 s.heap l2 ys) (hend:xs[k1]?=none\/ys[k2]?=none)
   (hE:∀h' e,(∀c o,c≠z->c≠TO->c≠i1->c≠i2->s.heap.get? c=⇑o->h'.get? c=⇑o)->(∃o,h'.get? e=⇑o/\o.cls=.type "StopIteration")->E ↥e { s with heap:=h' }) :
   wpAny (model prog w) A (Builtin.«zip.__next__» #[[↥z],[]]) Q E s:=by
 show wpAny _ _ (field ↥z 2 >>= _) _ _ _; refine Gp (IA zZ rfl (x:=.bool false) rfl ?_); show wpAny _ _ (field ↥z 3 >>= _) _ _ _; refine Gp (IA zZ rfl (x:=↥TI) rfl ?_); refine Gp (IN zI rfl ?_); show wpAny _ _ (Builtin.SmallTypes.ownedTupleIsFree ↥z >>= _) _ _ _; refine Gp ?_; unfold Builtin.SmallTypes.ownedTupleIsFree; refine Gp (IA zZ rfl (x:=.none) rfl (HL ?_)); simp only[if_true]; refine Gp (JT ?_); refine Gp (IA zZ rfl (x:=↥TO) rfl ?_);refine Gp (IL zZ 0xA λh₁ zZ₁ hs₁=>?_); replace zZ₁:IsZip h₁ z TI TO .ellipsis:=zZ₁; refine Gp ?_; simp only[Ji,Jv,JI,K5]; refine Gp (Gp (J2 ?_)); show wpAny _ _ (Builtin.SmallTypes.nextOf ↥i1 >>= _) _ _ _;cases hx:xs[k1]? with
 | none =>
   refine Gp (uL hh (p1.extBut hs₁.extBut D.i1z) (q1.extBut hs₁.extBut D.l1z) hx λh₂ e hs₂ he=>?_); let#[oe,hoe,hce]:=he; have hz₂:IsZip h₂ z TI TO .ellipsis:=hs₂ _ _ D.i1z.symm zZ₁; have hez:e≠z:=(λx=>by subst x; rw[hz₂] at hoe; cases hoe; simp at hce); refine IL hz₂ 0xA λh₃ _ hs₃=>hE h₃ e (λc o c1 _ c3 _ x=>hs₃.extBut _ _ c1 (hs₂ _ _ c3 (hs₁.extBut _ _ c1 x))) #[oe,hs₃.extBut _ _ hez hoe,hce]
 | some x =>
   have hy:ys[k2]?=none:=(by rcases hend with h|h; rw[hx] at h; cases h; exact h); refine Gp (me (p1.extBut hs₁.extBut D.i1z) (q1.extBut hs₁.extBut D.l1z) hx λh₂ h1₂ hs₂=>HL ?_); have hTO₂:IsPair h₂ TO a b:=hs₂.extBut _ _ D.TOi1 (hs₁.extBut _ _ D.TOz zO); refine Gp (IN hTO₂ rfl ?_); refine Gp (Jw hTO₂ λh₃ hTO₃ hs₃=>?_); refine Gp (Jd (HL ?_)); refine Gp (Gp (J2 ?_)); show wpAny _ _ (Builtin.SmallTypes.nextOf ↥i2 >>= _) _ _ _; refine Gp (uL hh (((p2.extBut hs₁.extBut D.i2z).extBut hs₂.extBut D.i12.symm).extBut hs₃.extBut D.TOi2.symm)
     (((q2.extBut hs₁.extBut D.l2z).extBut hs₂.extBut D.l2i1).extBut hs₃.extBut D.l2TO) hy λh₄ e hs₄ he=>?_)
   let#[oe,hoe,hce]:=he; have hz₄:IsZip h₄ z TI TO .ellipsis:=hs₄ _ _ D.i2z.symm (hs₃.extBut _ _ D.TOz.symm (hs₂.extBut _ _ D.i1z.symm zZ₁)); have hez:e≠z:=(λx=>by subst x; rw[hz₄] at hoe; cases hoe; simp at hce); refine IL hz₄ 0xA λh₅ _ hs₅=>hE h₅ e (λc o c1 c2 c3 c4 x=>hs₅.extBut _ _ c1 (hs₄ _ _ c4 (hs₃.extBut _ _ c2 (hs₂.extBut _ _ c3 (hs₁.extBut _ _ c1 x))))) #[oe,hs₅.extBut _ _ hez hoe,hce]
def BC {TI TO:Kg}{x y b:Ke}{Q:Kd Ke->Kf->Prop} (D:ZipApart z TI TO i1 i2 l1 l2)
   (zZ:IsZip s.heap z TI TO .none) (zI:IsPair s.heap TI ↥i1 ↥i2) (zO:IsPair s.heap TO a b)
   (p1:bu b1 s.heap i1 l1 k1) (p2:bu b2 s.heap i2 l2 k2) (q1:cT b1 s.heap l1 xs) (q2:cT b2 s.heap l2 ys) (hx:xs[k1]?=⇑x) (hy:ys[k2]?=⇑y)
   (hQ:∀h',IsZip h' z TI TO (rawInt s.heap.objs.size)->IsPair h' TO x y->bu b1 h' i1 l1 (k1+1)->bu b2 h' i2 l2 (k2+1)->IsPair h' s.heap.objs.size x y->h'.objs.size=s.heap.objs.size+1 ->
     (∀c o,c≠z->c≠TO->c≠i1->c≠i2->s.heap.get? c=⇑o->h'.get? c=⇑o)->Q ⇑↥s.heap.objs.size { s with heap:=h' }) :
   wpAny (model prog w) A (pyNext ↥z) Q E s:=by
 have hT:s.TypeIs ↥z "zip":=#[_,zZ,rfl]; unfold pyNext;exact Gp (KD (wpAny_callSpecial?_slot (name:=Str.ofString "__next__") hT Iq
   (IW Iq hT Jj
     (Br D zZ zI zO p1 p2 q1 q2 hx hy λh' a1 a2 a3 a4 a5 a6 a7=>HL (hQ h' a1 a2 a3 a4 a5 a6 a7)) (JZ _))))
def DP {TI TO:Kg}{b:Ke}{Q:Kd Ke->Kf->Prop} (hh:A.handled=none) (D:ZipApart z TI TO i1 i2 l1 l2)
   (zZ:IsZip s.heap z TI TO .none) (zI:IsPair s.heap TI ↥i1 ↥i2) (zO:IsPair s.heap TO a b)
   (p1:bu b1 s.heap i1 l1 k1) (p2:bu b2 s.heap i2 l2 k2) (q1:cT b1 s.heap l1 xs) (q2:cT b2 s.heap l2 ys) (hend:xs[k1]?=none\/ys[k2]?=none)
   (hQ:∀h',(∀c o,c≠z->c≠TO->c≠i1->c≠i2->s.heap.get? c=⇑o->h'.get? c=⇑o)->Q none { s with heap:=h' }):wpAny (model prog w) A (pyNext ↥z) Q E s:=by
 have hT:s.TypeIs ↥z "zip":=#[_,zZ,rfl]; unfold pyNext; refine Gp (KD (wpAny_callSpecial?_slot (name:=Str.ofString "__next__") hT Iq
   (IW Iq hT Jj (G8 hh D zZ zI zO p1 p2 q1 q2 hend λh' e hk he=>?_) (JZ _))))
 let#[o,ho,hc]:=he; refine Gp (wpAny_isInstance (T:="StopIteration") (b:=true) #[o,ho,hc] isSubtype_stop ?_);exact HL (hQ _ hk)
end
abbrev dY (b:Bool) (l:Kg):Obj:={ cls:=.type (match b with|true=>"tuple_iterator" | false=>"list_iterator"),data:=.fields (List.toArray [↥l,.int 0 0]) }
def Fb (b1 b2:Bool) (l1 l2:Kg) (xs ys:Array Ke) :
   Meets (Builtin.«zip.__new__» #[[.type "zip",↥l1,↥l2],[]]) (λ_ R s=>cT b1 s.heap l1 xs/\cT b2 s.heap l2 ys /\
     R (.ok (.ret ↥((((s.heap.push (dY b1 l1)).push (dY b2 l2)).push { cls:=.type "tuple",data:=.seq (List.toArray [↥s.heap.objs.size,↥(s.heap.push (dY b1 l1)).objs.size]) }).push { cls:=.type "tuple",data:=.seq (List.toArray [.none,.none]) }).objs.size))
       { s with heap:=(((((s.heap.push (dY b1 l1)).push (dY b2 l2)).push { cls:=.type "tuple",data:=.seq (List.toArray [↥s.heap.objs.size,↥(s.heap.push (dY b1 l1)).objs.size]) }).push { cls:=.type "tuple",data:=.seq (List.toArray [.none,.none]) }).push
         { cls:=.type "zip",data:=.fields (List.toArray [.none,.bool false,.bool false,↥((s.heap.push (dY b1 l1)).push (dY b2 l2)).objs.size,↥(((s.heap.push (dY b1 l1)).push (dY b2 l2)).push { cls:=.type "tuple",data:=.seq (List.toArray [↥s.heap.objs.size,↥(s.heap.push (dY b1 l1)).objs.size]) }).objs.size]) }) }) :=
 .of_wp λprog w A R s h=>by
   let#[hp,g,d,tk,os]:=s; let#[q1,q2,h]:=h;have hsub:=sub_zip;have q2':cT b2 (hp.push (dY b1 l1)) l2 ys:=q2.at λo e=>Gr _ e;cases b1 with
   | true =>
     have hL1:Heap.IsTuple (Shared.heap ⟨hp,g,d,tk,os⟩) l1 xs:=q1;cases b2 with
     | true =>
       have hL2:Heap.IsTuple (Shared.heap ⟨hp.push { cls:=.type "tuple_iterator",data:=.fields (List.toArray [↥l1,.int 0 0]) },g,d,tk,os⟩) l2 ys:=q2'
       wp_walk using Il hL1,Il hL2; show#[5,h]
     | false =>
       have hL2:Heap.IsList (Shared.heap ⟨hp.push { cls:=.type "tuple_iterator",data:=.fields (List.toArray [↥l1,.int 0 0]) },g,d,tk,os⟩) l2 ys:=q2'
       wp_walk using Il hL1,IV hL2; show#[5,h]
   | false =>
     have hL1:Heap.IsList (Shared.heap ⟨hp,g,d,tk,os⟩) l1 xs:=q1;cases b2 with
     | true =>
       have hL2:Heap.IsTuple (Shared.heap ⟨hp.push { cls:=.type "list_iterator",data:=.fields (List.toArray [↥l1,.int 0 0]) },g,d,tk,os⟩) l2 ys:=q2'
       wp_walk using IV hL1,Il hL2; show#[5,h]
     | false =>
       have hL2:Heap.IsList (Shared.heap ⟨hp.push { cls:=.type "list_iterator",data:=.fields (List.toArray [↥l1,.int 0 0]) },g,d,tk,os⟩) l2 ys:=q2'
       wp_walk using IV hL1,IV hL2; show#[5,h]
section
variable {prog:Program} {w:World} {A:Around} {E:Ke->Kf->Prop} {s:Kf}
def uQ (e:h.get? it=⇑(dY b l)):bu b h it l 0:=by cases b <;> show#[_,e,7]
def AM {Q:Ke->Kf->Prop} (q1:cT b1 s.heap l1 xs) (q2:cT b2 s.heap l2 ys)
   (h:∀h' (n:Nat),n=s.heap.objs.size->IsZip h' (n+4) (n+2) (n+3) .none->IsPair h' (n+2) ↥n ↥(n+1)->IsPair h' (n+3) .none .none->bu b1 h' n l1 0->bu b2 h' (n+1) l2 0 ->
     (∀c o,s.heap.get? c=⇑o->h'.get? c=⇑o)->Q ↥(n+4) { s with heap:=h' }) :
   wpAny (model prog w) A (call (.type "zip") [↥l1,↥l2]) Q E s:=by
 refine callType_new F.called_zip #[] (F.typeCall_zip_2 _ _) (F.newCall_zip_2 _ _) (λobj=>F.args_object_init_3 obj _ _) F.entry_zip_new (Fb b1 b2 l1 l2 xs ys) #[q1,q2,?_];generalize ho1:dY b1 l1=o1;generalize ho2:dY b2 l2=o2;have z1:(s.heap.push o1).objs.size=s.heap.objs.size+1:=IM ..;have z2:((s.heap.push o1).push o2).objs.size=s.heap.objs.size+2:=by rw[IM,z1]
 rw[z1,z2];generalize hT1:({ cls:=.type "tuple",data:=.seq (List.toArray [↥s.heap.objs.size,↥(s.heap.objs.size+1)]) }:Obj)=t1;generalize hT2:({ cls:=.type "tuple",data:=.seq (List.toArray [.none,.none]) }:Obj)=t2;have z3:(((s.heap.push o1).push o2).push t1).objs.size=s.heap.objs.size+3:=by rw[IM,z2]
 have z4:((((s.heap.push o1).push o2).push t1).push t2).objs.size=s.heap.objs.size+4:=by rw[IM,z3]
 rw[z3,z4];generalize hZ:({ cls:=.type "zip",data:=.fields (List.toArray [.none,.bool false,.bool false,↥(s.heap.objs.size+2),↥(s.heap.objs.size+3)]) }:Obj)=tz;have g5:=HR ((((s.heap.push o1).push o2).push t1).push t2) (o:=tz) (by rw[<- hZ]; rfl);have g4:=Gr tz (HR (((s.heap.push o1).push o2).push t1) (o:=t2) (by rw[<- hT2]; rfl));have g3:=Gr tz (Gr t2 (HR ((s.heap.push o1).push o2) (o:=t1) (by rw[<- hT1]; rfl)));have g2:=Gr tz (Gr t2 (Gr t1 (HR (s.heap.push o1) (o:=o2) (by rw[<- ho2]; rfl))));have g1:=Gr tz (Gr t2 (Gr t1 (Gr o2 (HR s.heap (o:=o1) (by rw[<- ho1]; rfl)))));rw[z4] at g5;rw[z3] at g4;rw[z2] at g3;rw[z1] at g2;subst hZ hT1 hT2 ho1 ho2;show#[#[_,g5,rfl],h _ s.heap.objs.size rfl g5 g3 g4 (uQ g1) (uQ g2) λc o x =>
   Gr _ (Gr _ (Gr _ (Gr _ (Gr _ x))))]
end
end PySem
namespace L2
open PySem PySem.Spec PyProof.Rows
abbrev dy (b:Bool) (K:Kh) (H:Hp) (l:Kg) (xs:List V):Prop:=match b with|true=>aN K H l xs|false=>aG K H l xs
variable {X:Cx} {H:Hp} {xs:List V}
def Inv.sqv {pins:List (Kg×Obj)} {σ:St} {s:Kf} {b:Bool} {l:Kg} (I:Inv X pins σ H s) (h:dy b X.K H l xs):∃its:List Ke,ae xs its/\cT b s.heap l its.toArray:=by
 cases b with
 | true=>let#[its,r,p,_]:=I.tuple h; show#[its,r,p]
 | false=>let#[its,r,p,_]:=I.list h; show#[its,r,p.isList]
def Inv.sqv_inj {pins:List (Kg×Obj)} {σ:St} {s:Kf} {b:Bool} {l:Kg} {ys:List V}(I:Inv X pins σ H s) (h:dy b X.K H l xs) (h':dy b X.K H l ys):xs=ys:=by
 cases b with
 | true=>exact I.tuple_inj h h'
 | false=>exact I.list_inj h h'
def cT.lt {b:Bool} {h:Heap} {l:Kg} {xs:Array Ke} (p:cT b h l xs):l<h.objs.size:=by cases b <;> (let#[o,ho,r]:=p; exact HU ho)
abbrev jq (K:Kh) (b1 b2:Bool) (l1 l2:Kg):It :=
 #[λi H=>∃xs ys x y,dy b1 K H l1 xs/\dy b2 K H l2 ys/\xs[i]?=⇑x/\ys[i]?=⇑y,
  λi H v H'=>∃b,v=↥b/\H b=none/\∀xs ys x y,dy b1 K H l1 xs->dy b2 K H l2 ys->xs[i]?=⇑x->ys[i]?=⇑y->H'=upd H b (.tup [x,y]),
  λi H=>∃xs ys,dy b1 K H l1 xs/\dy b2 K H l2 ys/\(xs[i]?=none\/ys[i]?=none)]
variable {K:Kh}
def zD {P:Program} {w:World} {elts:List Expr} {k:Nat} {pos:Pos} (b1 b2:Bool) (z TI TO i1 i2 l1 l2:Kg) (D:ZipApart z TI TO i1 i2 l1 l2) :
   Turn P w K (.Tuple elts k pos) (jq K b1 b2 l1 l2) [z,TI,TO,i1,i2] z (λi h=>IsZip h z TI TO .none/\IsPair h TI ↥i1 ↥i2/\(∃a b,IsPair h TO a b)/\bu b1 h i1 l1 i/\bu b2 h i2 l2 i) where
 mem:=by simp
 obj:=λi h st b hb=>by
   obtain⟨hz,hTI,⟨a,c,hTO⟩,h1,h2⟩:=st;simp only[HM,Hh,or_false] at hb;rcases hb with rfl|rfl|rfl|rfl|rfl
   . show#[_,hz,λv z=>by cases (show Data.fields _=Data.cell v from z)]
   . show#[_,hTI,λv z=>by cases (show Data.seq _ _=Data.cell v from z)]
   . show#[_,hTO,λv z=>by cases (show Data.seq _ _=Data.cell v from z)]
   . cases b1 <;> (let#[o,ho,hc,hd]:=h1; show#[o,ho,λv z=>by rw[hd] at z; cases z])
   . cases b2 <;> (let#[o,ho,hc,hd]:=h2; show#[o,ho,λv z=>by rw[hd] at z; cases z])
 keep:=λi h h' st kk=>by obtain⟨hz,hTI,⟨a,c,hTO⟩,h1,h2⟩:=st;show#[kk _ 0xA _ hz,kk _ 0xA _ hTI,#[a,c,kk _ 0xA _ hTO],h1.at λo e=>kk _ 0xA o e,h2.at λo e=>kk _ 0xA o e]
 item:=by
   intro X hP hw hK hc i pins s σ H E I hf st hg;subst hP hw hK;obtain⟨hz,hTI,⟨oa,ob,hTO⟩,h1,h2⟩:=st;let#[xs,ys,x,y,e1,e2,hx,hy]:=hg;let#[is1,r1,p1]:=I.sqv e1;let#[is2,r2,p2]:=I.sqv e2;let#[u,hu,ru]:=r1.get hx;let#[v,hv,rv]:=r2.get hy;refine BC D hz hTI hTO h1 h2 p1 p2 ↑hu ↑hv λh' a1 a2 a3 a4 a5 a6 hk=>?_;show#[5,KM a1 λh3 hz3 hs3=>?_];have hs3:Heap.SameBut z h' h3:=hs3;have hzlt:z<s.heap.objs.size:=HU hz;have hfr:H s.heap.objs.size=none:=I.hok.fresh (Gw _);have hnS:s.heap.objs.size≠z:=Ij hzlt;have hT3:IsPair h3 s.heap.objs.size u v:=(hs3.2 _ hnS)\a5;show#[↥s.heap.objs.size,upd H s.heap.objs.size (.tup [x,y]),I.turnLaid (t':=s.toks) (ch:=[z,TI,TO,i1,i2]) (λb o hb q=>?_) hf (Gw _) ?_,rfl,#[s.heap.objs.size,rfl,hfr,λxs' ys' x' y' q1 q2 hx' hy'=>?_],#[hz3,?_,#[u,v,?_],?_,?_],λb hb=>?_]
   . have n1:b≠z:=λzz=>hb (by simp [zz]);have n3:b≠TO:=λzz=>hb (by simp [zz]);have n4:b≠i1:=λzz=>hb (by simp [zz]);have n5:b≠i2:=λzz=>hb (by simp [zz]);exact(hs3.2 b n1).trans (hk b o n1 n3 n4 n5 q)
   . show#[by show 2<=sizeLine; decide,[u,v],.cons ru (.cons rv .nil),#[_,hT3,13]]
   . have t1:=I.sqv_inj q1 e1;have t2:=I.sqv_inj q2 e2;subst t1 t2;rw[hx] at hx';rw[hy] at hy';cases hx';cases hy';rfl
   . exact(hs3.2 _ D.TIz).trans (hk _ _ D.TIz D.TITO D.TIi1 D.TIi2 hTI)
   . exact(hs3.2 _ D.TOz).trans a2
   . exact a3.at λo e=>(hs3.2 _ D.i1z)\e
   . exact a4.at λo e=>(hs3.2 _ D.i2z)\e
   . have hb0:=(hf b hb).1;rw[aJ]
     . exact hb0
     . intro zz;subst zz;simp only[HM,Hh,or_false] at hb;rcases hb with e|e|e|e|e
       . exact hnS e
       . exact absurd (HU hTI) (by rw[<- e]; exact ID _)
       . exact absurd (HU hTO) (by rw[<- e]; exact ID _)
       . exact absurd h1.lt (by rw[<- e]; exact ID _)
       . exact absurd h2.lt (by rw[<- e]; exact ID _)
 done:=by
   intro X hP hw hK hc i pins s σ H E I hf st hg;subst hP hw hK;obtain⟨hz,hTI,⟨oa,ob,hTO⟩,h1,h2⟩:=st;let#[xs,ys,e1,e2,hend]:=hg;let#[is1,r1,p1]:=I.sqv e1;let#[is2,r2,p2]:=I.sqv e2;refine DP (I.ok.hd hc) D hz hTI hTO h1 h2 p1 p2 ?_ λh' hk=>#[rfl,?_]
   . rcases hend with h|h
     . left; have:=r1.none_of h; simpa using this
     . right; have:=r2.none_of h; simpa using this
   . exact I.turnedL (t':=s.toks) (ch:=[z,TI,TO,i1,i2]) (λb o hb q=>hk b o (λzz=>hb (by simp [zz])) (λzz=>hb (by simp [zz])) (λzz=>hb (by simp [zz])) (λzz=>hb (by simp [zz])) q) hf
 self:=λ_ _ _ _ _ st h=>Jk st.1 h
section
variable {X:Cx}
abbrev ED (b1 b2:Bool) (K:Kh) (ta:TA):TI:=λσ H R=>ta σ H λvs H1=>∃l1 l2,vs=[↥l1,↥l2]/\(∃xs,dy b1 K H1 l1 xs)/\(∃ys,dy b2 K H1 l2 ys)/\R (jq K b1 b2 l1 l2) H1
def rP (b1 b2:Bool) {a b:Expr} {ta:TA} {p pos tpos:Pos} {elts:List Expr} {k:Nat} (hg:Gl X "zip") (hm:X.mg "zip"=none) (ha:PA X [a,b] ta) (hs:starEach [a,b] X.env=(false,eval a X.env)::starEach [b] X.env:=by rfl) (hs2:(backTo pos (starEach [b] X.env)).any (·.1)=false:=by rfl) :
   PI X (.Tuple elts k tpos) (.Call (.Name "zip" p) [a,b] [] pos) (ED b1 b2 X.K ta):=by
 intro pins s σ H R I h;refine Call_ (fD I hg hm uw (IF (aW (ha pos pins s σ H _ I h) λus s1 z150_=>?_) hs hs2));let#[vs,H1,I1,r1,q1]:=z150_;obtain⟨l1,l2,e,⟨xs,hx⟩,⟨ys,hy⟩,q⟩:=q1;subst e;cases r1 with
 | cons r rr =>
   cases rr with
   | cons r' rr =>
     cases rr;cases r;cases r';let#[is1,v1,p1]:=I1.sqv hx;let#[is2,v2,p2]:=I1.sqv hy;refine AM p1 p2 λh' n hn hz hTI hTO h1 h2 hk=>?_;subst hn;refine Jk hz ?_;show#[s1.heap.objs.size+4,[s1.heap.objs.size+4,s1.heap.objs.size+2,s1.heap.objs.size+3,s1.heap.objs.size,s1.heap.objs.size+1],4,H1,rfl,I1.kept (t':=s1.toks) hk,zD b1 b2 _ _ _ _ _ l1 l2 (zipApart_new (cT.lt p1) (cT.lt p2)),#[hz,hTI,#[4,hTO],h1,h2],λb hb=>?_,q];have hb':s1.heap.objs.size<=b:=by simp only[HM,Hh,or_false] at hb;rcases hb with e|e|e|e|e <;> rw[e] <;> first|exact Gw _|exact KQ _ _
     exact I1.fpOk hb' (I1.hok.fresh hb')
def r9 {b1 b2:Bool} {l1 l2:Kg} {ys:List V}{g:TG} {tb:TS} {D:Ends} {σ:St} (Pv:Nat->St->Hp->Prop) (h0:Pv 0 σ H) (hl:∀i σ H,i<=min xs.length ys.length->Pv i σ H->dy b1 K H l1 xs/\dy b2 K H l2 ys)
   (hs:∀i x y σ H b,xs[i]?=⇑x->ys[i]?=⇑y->Pv i σ H->H b=none->g ↥b σ (upd H b (.tup [x,y])) λσ2 H2=>tb { D with nx:=Pv (i+1),ct:=Pv (i+1),bk:=D.nx } σ2 H2) (hd:∀σ H,Pv (min xs.length ys.length) σ H->D.nx σ H) :
   ∃W:Nat->Nat->St->Hp->Prop,(∃m,W 0 m σ H)/\∀i m σ H,W i m σ H->((jq K b1 b2 l1 l2).stop i H/\D.nx σ H)\/((jq K b1 b2 l1 l2).go i H/\∃N:St->Hp->Prop,(∀σ' H',N σ' H'->∃m',m'<m/\W (i+1) m' σ' H')/\∀x H',(jq K b1 b2 l1 l2).yld i H x H'->g x σ H' λσ2 H2=>tb { D with nx:=N,ct:=N,bk:=D.nx } σ2 H2):=by
 show#[λi m σ H=>m=min xs.length ys.length - i/\i<=min xs.length ys.length/\Pv i σ H,#[min xs.length ys.length,by simp,Hj _,h0],?_];rintro i m σ H ⟨rfl,hi,p⟩;let#[q1,q2]:=hl i σ H hi p;by_cases hlt:i<min xs.length ys.length
 . have l1':i<xs.length:=by lia
   have l2':i<ys.length:=by lia
   refine .inr #[#[xs,ys,xs[i],ys[i],q1,q2,by simp [l1'],by simp [l2']],Pv (i+1),λσ' H' p'=>#[min xs.length ys.length - (i+1),∅,rfl,hlt,p'],λx H' y=>?_];let#[b,rfl,hb,y]:=y;rw[y xs ys xs[i] ys[i] q1 q2 (by simp [l1']) (by simp [l2'])];exact hs i xs[i] ys[i] σ H b (by simp [l1']) (by simp [l2']) p hb
 . have e:i=min xs.length ys.length:=by lia
   subst e;refine .inl #[#[xs,ys,q1,q2,?_],hd σ H p];rcases Nat.le_total xs.length ys.length with h|h
   . left; rw[Nat.min_eq_left h]; exact Im (Gw _)
   . right; rw[Nat.min_eq_right h]; exact Im (Gw _)
end
structure ClsOk (K:W.Frag) (mg:Str->Option Value) (name:Str) (C:Addr):Prop where
 cl:Cls K C
 g:mg name=⇑↥C
structure MetOk (K:W.Frag) (C:Addr) (m qual:Str) (st:Stmt) (ps:List Str) (f:Addr) (fd:FuncData):Prop where
 F:Fun K m qual st f fd
 b:dk K fd ps []
 m:Meth K C m f
structure IniOk (K:W.Frag) (C:Addr) (qual:Str) (st:Stmt) (ps:List Str) (f:Addr) (fd:FuncData):Prop where
 F:Fun K "__init__" qual st f fd
 b:dk K fd ps []
 M:Mk K C f
section
variable {X:Cx} {k:Nat} {C f:Kg} {fd:FuncData} {ps:List Str} {sp:Sp} {x m qual:Str} {st:Stmt} {p pos apos:Pos} {o e:Expr} {es:List Expr} {ta:TE} {t:TA}
def nK (Cc:ClsOk X.K X.mg x C) (D:IniOk X.K C qual st ps f fd) (G:FnOk X.prog X.w X.K X.mg X.base CX0 k f fd ps sp) (hr:Room (k+1) X.A) (ha:PA X (e::es) t) (hg:Gl X x:=by rfl)
   (hdb:(x==("__debug__":Str))=false:=by decide) (he:starEach (e::es) X.env=(false,eval e X.env)::starEach es X.env:=by rfl) (hpl:(backTo pos (starEach es X.env)).any (·.1)=false:=by rfl) :
   PE X (.Call (.Name x p) (e::es) [] pos) (qM C sp [] E0 t):=DC D.M G hr hg Cc.g D.b .nil bN ha hdb he hpl
def cZ {C:Kg} {m qual:Str} {st:Stmt} {ps:List Str} {f:Kg} {oc:Ke} {od an:Kd Kg} {osl:Array (Kd Ke)} {kV doc pm cdv ct:Ke}
   (a:PySem.W.findIn K ↥C m=⇑⇑↥f) (i:PySem.W.isFn K ↥f=true) (l:K.lookup f=⇑#[oc,od,.func (PySem.W.fnOf m qual (dH st) (aU st) (ac st) .none kV doc pm an cdv ct),osl]) (c:PySem.W.codeIn K cdv qual=true) (k:PySem.W.keepIn K ↥f=true)
   (b:∀(kV doc pm:Ke) (an:Kd Kg) (cdv ct:Ke) (us:List Ke),us.length=ps.length->bindArgs (PySem.W.fnOf m qual (dH st) (aU st) (ac st) .none kV doc pm an cdv ct) #[us,[]]=pure (ps.zip us)) :
   MetOk K C m qual st ps f (PySem.W.fnOf m qual (dH st) (aU st) (ac st) .none kV doc pm an cdv ct) :=
 #[fq l c k,(fq l c k).binds b,#[a,i,k]]
def oX {C:Kg} {qual:Str} {st:Stmt} {ps:List Str} {f:Kg} {oc:Ke} {od an:Kd Kg} {osl:Array (Kd Ke)} {kV doc pm cdv ct:Ke}
   (mk:PySem.W.makesIn K C=true) (kc:PySem.W.keepIn K ↥C=true) (a:PySem.W.findIn K ↥C "__init__"=⇑⇑↥f) (i:PySem.W.isFn K ↥f=true) (l:K.lookup f=⇑#[oc,od,.func (PySem.W.fnOf "__init__" qual (dH st) (aU st) (ac st) .none kV doc pm an cdv ct),osl]) (c:PySem.W.codeIn K cdv qual=true) (k:PySem.W.keepIn K ↥f=true)
   (b:∀(kV doc pm:Ke) (an:Kd Kg) (cdv ct:Ke) (us:List Ke),us.length=ps.length->bindArgs (PySem.W.fnOf "__init__" qual (dH st) (aU st) (ac st) .none kV doc pm an cdv ct) #[us,[]]=pure (ps.zip us)) :
   IniOk K C qual st ps f (PySem.W.fnOf "__init__" qual (dH st) (aU st) (ac st) .none kV doc pm an cdv ct) :=
 #[fq l c k,(fq l c k).binds b,#[mk,a,i,kc]]
end
def bA {A:Around} (h:A.units+64<cLine):A.units+1<cLine:=by lia
section
variable {prog:Program} {w:World} {A:Around} {E:Ke->Kf->Prop} {s:Kf}
open HT in
def CG {t sl:Kg} {items:Array Ke} {vl vu:Ke} {lo hi:Kd Int} {Q:Ke->Kf->Prop} (ht:IsTup s.heap t items) (hs:s.heap.IsSliceOf sl vl vu .none) (pl:IsPart vl lo) (pu:IsPart vu hi)
   (hw:sIx items.size 0 lo=0/\sIx items.size items.size hi=items.size) (h:Q ↥t s):wpAny (model prog w) A (getItem ↥t ↥sl) Q E s:=by
 let#[os,hos,hcs,hds]:=id hs;have tS:s.TypeIs ↥sl "slice":=#[os,hos,hcs]
 unfold getItem; try with_reducible refine IU ?_
 first|refine Gp (HL ?_)|skip
 refine Gp (KG ht.typeIs #[] ?_); refine Gp (wpAny_callSpecial?_slot (name:=Str.ofString "__getitem__") ht.typeIs IT (IW IT ht.typeIs entry_tuple_getitem ?_ (args_tuple_getitem _ _)));show wpAny _ _ (Builtin.Tuple.tupleItemsOf ↥t >>= _) _ _ s; refine Gp (tupleItemsOf_ ht ?_); refine Gp (Js tS ?_); rw[HI #[]]; refine Gp (uD hs pl pu ?_);have yes:(((sIx items.size 0 lo:Nat):Int)==0&&(1:Int)==1&&(sIx items.size items.size hi - sIx items.size 0 lo)==items.size)=true:=by rw[hw.1,hw.2];simp
 show wpAny _ _ (if(((sIx items.size 0 lo:Nat):Int)==0&&(1:Int)==1&&(sIx items.size items.size hi - sIx items.size 0 lo)==items.size)=true then _ else _) _ _ s; rw[HI yes];show wpAny _ _ (Builtin.Tuple.tupleIsExact ↥t >>= _) _ _ s;unfold Builtin.Tuple.tupleIsExact;refine Gp (Gp (Js ht.typeIs (HL ?_)));rw[HI #[]];exact Gp (JT (Gp (HL (HL #[5,HL h]))))
end
abbrev qE (K:Kh):V->Kd Int->Kd Int->Hp->VK->Prop:=λx lo hi H Q=>∃a xs,x=↥a/\aN K H a xs /\
 (HT.sIx xs.length 0 lo=0/\HT.sIx xs.length xs.length hi=xs.length)/\Q ↥a H
def yP :fX X (qE X.K):=by
 intro pins s σ H x v vl vu lo hi sl Q I rx hs pl pu h;let#[a,xs,rfl,hx,hw,q]:=h;cases rx;let#[its,r,ht,hz]:=I.tuple hx;have hlen:its.toArray.size=xs.length:=by rw[HZ]; exact r.length.symm
 show#["tuple",_,IT.lookup,ht.typeIs,CG ht hs pl pu (by rw[hlen]; exact hw) #[↥a,H,I,rfl,q]]
abbrev sv (K:Kh):V->Kd Int->Kd Int->Hp->VK->Prop:=λx lo hi H Q=>rX K x lo hi H Q\/qE K x lo hi H Q
def DJ :fX X (sv X.K):=EC.or yP
def fi {Q:VK} {a:Kg} {lo hi:Kd Int} (h:aN K H a xs) (q:∀p H',aB H H'->aN K H' p (cR xs lo hi)->Q ↥p H'):sv K ↥a lo hi H Q:=by
 by_cases hw:HT.sIx xs.length 0 lo=0/\HT.sIx xs.length xs.length hi=xs.length
 . refine .inr #[a,xs,rfl,h,hw,q a H (aB.refl _) ?_];have:cR xs lo hi=xs:=by unfold cR;rw[hw.1,hw.2,List.drop_zero,Nat.sub_zero,IP]
   rw[this];exact h
 . exact .inl #[a,xs,rfl,h,hw,λp hp=>q p _ (aB.new hp) (aN.of aI)]
end L2
namespace K12
open PySem L2
abbrev step (acc:List Str) (s:Str):List Str:=if s∈acc then acc else acc++[s]
abbrev onceL (ss:List Str):List Str:=ss.foldl step []
abbrev strsOf (as:List V):List Str:=as.filterMap λv=>match v with | .str s=>⇑s|_=>none
def strsOf_append (a b:List V):strsOf (a++b)=strsOf a++strsOf b:=List.filterMap_append ..
def FU (i:Int):strsOf [.int i]=[]:=rfl
def strsOf_map (ss:List Str):strsOf (ss.map V.str)=ss:=by
 induction ss with
 | nil=>rfl
 | cons s r ih=>rw[Hn]; show s::strsOf (r.map V.str)=_; rw[ih]
def AI (acc:List Str) (s:Str):∀x∈acc,x∈step acc s:=λx hx=>by
 unfold step;split
 . exact hx
 . exact Hx _ hx
def BI (acc:List Str) (s:Str):s∈step acc s:=by
 unfold step;split
 . assumption
 . exact HS _ 0xA
def uC:∀(ss acc:List Str),∀x∈acc,x∈ss.foldl step acc
 | [],acc,x,hx=>hx
 | s::ss,acc,x,hx=>uC ss _ x (AI acc s x hx)
def fold_has:∀(ss acc:List Str),∀x∈ss,x∈ss.foldl step acc
 | s::ss,acc,x,hx=>by
   rcases HM.mp hx with e|e
   . subst e;exact uC ss _ _ (BI acc _)
   . exact fold_has ss _ x e
def pk:∀(B:List Str) (acc C:List Str),(B.foldl step C).foldl step acc=B.foldl step (C.foldl step acc)
 | [],acc,C=>rfl
 | s::B,acc,C=>by
   rw[Hv,pk B acc (step C s),Hv];congr 1;unfold step;by_cases h:s∈C
   . rw[HI h];have h2:s∈C.foldl step acc:=fold_has C acc s h;have h2':s∈List.foldl (λacc s=>if s∈acc then acc else acc++[s]) acc C:=h2;rw[HI h2']
   . rw[Gu h,IC];rfl
def E3 (A B C:List Str):onceL (A++onceL B++C)=onceL (A++B++C):=by unfold onceL;rw[IC,IC,IC,IC];have e:=pk B (A.foldl step []) [];rw[e];rfl
def onceL_sub (ss:List Str):∀x∈onceL ss,x∈ss:=by
 have key:∀(ss acc:List Str),∀x∈ss.foldl step acc,x∈acc\/x∈ss:=by
   intro ss
   induction ss with
   | nil=>intro acc x hx; exact .inl hx
   | cons s ss ih =>
     intro acc x hx;rcases ih _ x hx with h|h
     . unfold step at h;split at h
       . exact .inl h
       . rcases HW.mp h with h|h
         . exact .inl h
         . have:x=s:=↑h
           exact .inr (by rw[this]; exact HH)
     . exact .inr (Gz _ h)
 intro x hx;rcases key ss [] x hx with h|h
 . cases h
 . exact h
def Gh (acc:List Str) (s:Str):(step acc s).length<=acc.length+1:=by
 unfold step;split
 . lia
 . simp
def onceL_len (ss:List Str):(onceL ss).length<=ss.length:=by
 have key:∀(ss acc:List Str),(ss.foldl step acc).length<=acc.length+ss.length:=by
   intro ss
   induction ss with
   | nil=>intro acc; simp
   | cons s ss ih =>
     intro acc;have h1:=ih (step acc s);have h2:=Gh acc s;rw[Hv];simp only[Hs]
     lia
 have:=key ss [];unfold onceL;simpa using this
abbrev ca (ss:List Str):List (aE×V):=ss.map λs=>(Sum.inr s,V.bl true)
def yR (acc:List Str) (s:Str):aQ (ca acc) (Sum.inr s) (.bl true)=ca (step acc s):=by
 unfold aQ step;have e:((ca acc).any λkv=>decide (kv.1=(Sum.inr s:aE)))=decide (s∈acc):=by
   unfold ca;rw[List.any_map];rw[Ip,Jl];simp only[Function.comp,Ie];constructor
   . rintro ⟨x,hx,h⟩;have:x=s:=Sum.inr.inj h;rw[<- this];exact hx
   . intro h;show#[s,h,rfl]
 rw[e];by_cases h:s∈acc
 . rw[HJ h,HI rfl,HI h];unfold ca;rw[IG];apply List.map_congr_left;intro x _;show(if(Sum.inr x:aE)=Sum.inr s then((Sum.inr x:aE),V.bl true) else(Sum.inr x,V.bl true))=_;split <;> rfl
 . rw[Hg h,Gu #[],Gu h];unfold ca;rw[Gy];rfl
def pi:∀(ss acc:List Str),(ca ss).foldl (λacc kv=>aQ acc kv.1 kv.2) (ca acc)=ca (ss.foldl step acc)
 | [],acc=>rfl
 | s::ss,acc=>by show(ca ss).foldl _ (aQ (ca acc) (Sum.inr s) (.bl true))=_;rw[yR];exact pi ss (step acc s)
def ER (ss:List Str):(ca ss).foldl (λacc kv=>aQ acc kv.1 kv.2) []=ca (onceL ss):=pi ss []
def Bb (ss:List Str):((ca ss).map λkv=>kV kv.1)=ss.map V.str:=by unfold ca;rw[IG];rfl
def sqT_lst {K:Kh} {H:Hp} {a q:Kg} {xs l l':List V} (h:aN K H a xs) (hq:H q=⇑(.lst l)):aN K (upd H q (.lst l')) a xs:=by
 rcases h with(h|⟨o,h⟩)|h
 . exact .inl (.inl (by rw[aJ (fR h hq 0x6)]; exact h))
 . exact .inl (.inr #[o,by rw[aJ (fR h hq 0x6)]; exact h])
 . exact .inr h
abbrev Nm (s:Str):Prop:=s.length<=1000/\PyData.strOk s=true
def eqv_strs (ss:List Str):PyData.eqv (.list (ss.map PyData.str)) (.list (ss.map PyData.str))=true:=by
 unfold PyData.eqv
 induction ss with
 | nil=>rfl
 | cons s r ih =>
   rw[Hn];unfold PyData.eqvAll;rw[ih];unfold PyData.eqv;simp
end K12
namespace K12
open PySem L2 PySem.W PyProof.Rows
inductive RowS (K:W.Frag) (H:Hp):List V->Option Str->List V->Prop
 | copy (x:Str) (a:V):RowS K H [.str "copy",.str x,a] ⇑x [a]
 | op (x s:Str) (a b:V):RowS K H [.str "op",.str x,.str s,a,b] ⇑x [a,b]
 | new (x:Str):RowS K H [.str "new",.str x] ⇑x []
 | get (x:Str) (a:V) (f:Str):RowS K H [.str "get",.str x,a,.str f] ⇑x [a]
 | put (a:V) (f:Str) (b:V):RowS K H [.str "put",a,.str f,b] none [a,b]
 | call (x f:Str) (p:Addr) (as:List V):aN K H p as->RowS K H [.str "call",.str x,.str f,↥p] ⇑x as
 | out (a:V):RowS K H [.str "out",a] none [a]
 | back (a:V):RowS K H [.str "back",a] none [a]
 | ifs (a:V):RowS K H [.str "if",a] none [a]
 | whl (a:V):RowS K H [.str "while",a] none [a]
 | els:RowS K H [.str "else"] none []
 | fin:RowS K H [.str "end"] none []
def RowS.mono {K:Kh} {H H':Hp} {xs:List V} {g:Kd Str} {as:List V} (h:RowS K H xs g as) (e:aB H H'):RowS K H' xs g as:=by
 cases h with
 | call x f p as hp=>exact .call x f p as (e<*hp)
 | copy x a=>exact .copy x a
 | op x s a b=>exact .op x s a b
 | new x=>exact .new x
 | get x a f=>exact .get x a f
 | put a f b=>exact .put a f b
 | out a=>exact .out a
 | back a=>exact .back a
 | ifs a=>exact .ifs a
 | whl a=>exact .whl a
 | els=>exact .els
 | fin=>exact .fin
abbrev tabl:List (Str×List V):=[("copy",[.int 2]),("op",[.int 3,.int 4]),("new",[]),("get",[.int 2]),("put",[.int 1,.int 3]),("out",[.int 1]),("back",[.int 1]),("if",[.int 1]),("while",[.int 1]),("else",[]),("end",[])]
abbrev giving:List Str:=["copy","op","new","get","call"]
def Cq {K:Kh} {H:Hp} {xs:List V} {g:Kd Str} {as:List V} (h:RowS K H xs g as):∃kd:Str,bD xs 0=⇑(.str kd) /\
   ((kd="call"/\∃p,bD xs 3=⇑↥p/\aN K H p as)\/(kd≠"call"/\∃pl:List Int,KTD.datumAt kd tabl=⇑(pl.map V.int)/\pl.length=as.length/\∀(i:Nat) (a:V),as[i]?=⇑a->∃p,pl[i]?=⇑p/\bD xs p=⇑a)):=by
 cases h with
 | call x f p as hp=>show#["call",rfl,.inl #[rfl,p,rfl,hp]]
 | copy x a=>show#["copy",rfl,.inr #[by decide +kernel,[2],by decide +kernel,rfl,λi a' e=>by match i,e with|0,e=>exact⟨2,rfl,e⟩]]
 | op x s a b=>show#["op",rfl,.inr #[by decide +kernel,[3,4],by decide +kernel,rfl,λi a' e=>by match i,e with|0,e=>exact⟨3,rfl,e⟩|1,e=>exact⟨4,rfl,e⟩]]
 | new x=>show#["new",rfl,.inr #[by decide +kernel,[],by decide +kernel,rfl,λi a' e=>by simp at e]]
 | get x a f=>show#["get",rfl,.inr #[by decide +kernel,[2],by decide +kernel,rfl,λi a' e=>by match i,e with|0,e=>exact⟨2,rfl,e⟩]]
 | put a f b=>show#["put",rfl,.inr #[by decide +kernel,[1,3],by decide +kernel,rfl,λi a' e=>by match i,e with|0,e=>exact⟨1,rfl,e⟩|1,e=>exact⟨3,rfl,e⟩]]
 | out a=>show#["out",rfl,.inr #[by decide +kernel,[1],by decide +kernel,rfl,λi a' e=>by match i,e with|0,e=>exact⟨1,rfl,e⟩]]
 | back a=>show#["back",rfl,.inr #[by decide +kernel,[1],by decide +kernel,rfl,λi a' e=>by match i,e with|0,e=>exact⟨1,rfl,e⟩]]
 | ifs a=>show#["if",rfl,.inr #[by decide +kernel,[1],by decide +kernel,rfl,λi a' e=>by match i,e with|0,e=>exact⟨1,rfl,e⟩]]
 | whl a=>show#["while",rfl,.inr #[by decide +kernel,[1],by decide +kernel,rfl,λi a' e=>by match i,e with|0,e=>exact⟨1,rfl,e⟩]]
 | els=>show#["else",rfl,.inr #[by decide +kernel,[],by decide +kernel,rfl,λi a' e=>by simp at e]]
 | fin=>show#["end",rfl,.inr #[by decide +kernel,[],by decide +kernel,rfl,λi a' e=>by simp at e]]
abbrev xv:Kd Str->V
 | some x=>.str x
 | none=>.non
def DB {K:Kh} {H:Hp} {xs:List V} {g:Kd Str} {as:List V} (h:RowS K H xs g as):∃kd:Str,bD xs 0=⇑(.str kd) /\
   ((∃x,g=⇑x/\cS (.str kd) (giving.map V.str)=true/\bD xs 1=⇑(.str x))\/(g=none/\cS (.str kd) (giving.map V.str)=false)):=by
 cases h with
 | call x f p as hp=>show#["call",rfl,.inl #[x,rfl,by decide +kernel,rfl]]
 | copy x a=>show#["copy",rfl,.inl #[x,rfl,by decide +kernel,rfl]]
 | op x s a b=>show#["op",rfl,.inl #[x,rfl,by decide +kernel,rfl]]
 | new x=>show#["new",rfl,.inl #[x,rfl,by decide +kernel,rfl]]
 | get x a f=>show#["get",rfl,.inl #[x,rfl,by decide +kernel,rfl]]
 | put a f b=>show#["put",rfl,.inr #[rfl,by decide +kernel]]
 | out a=>show#["out",rfl,.inr #[rfl,by decide +kernel]]
 | back a=>show#["back",rfl,.inr #[rfl,by decide +kernel]]
 | ifs a=>show#["if",rfl,.inr #[rfl,by decide +kernel]]
 | whl a=>show#["while",rfl,.inr #[rfl,by decide +kernel]]
 | els=>show#["else",rfl,.inr #[rfl,by decide +kernel]]
 | fin=>show#["end",rfl,.inr #[rfl,by decide +kernel]]
def Cs:(giving.map V.str).all eY=true:=by decide +kernel
abbrev Atom (v:V):Prop:=(∃s,v=.str s/\Nm s)\/∃i,v=.int i
structure RowD where
 r:Addr
 e:Addr
 a:Addr
 gx:Option Str
 as:List V
structure RowAt (K:W.Frag) (H:Hp) (d:RowD):Prop where
 row:∃xs,aN K H d.r xs/\RowS K H xs d.gx d.as
 ats:∀v∈d.as,Atom v
 len:d.as.length<=10
 nm:∀x,d.gx=⇑x->Nm x
def RowAt.mono {K:Kh} {H H':Hp} {d:RowD} (h:RowAt K H d) (e:aB H H'):RowAt K H' d :=
 #[by let#[xs,h1,h2]:=h.row; show#[xs,e<*h1,h2*>e],h.ats,h.len,h.nm]
structure FunAt (K:W.Frag) (H:Hp) (f:Addr) (ps:List Str) (ds:List RowD):Prop where
 fn:∃n b p r,aN K H f [n,b,↥p,↥r]/\aN K H p (ps.map V.str)/\aN K H r (ds.map λd=>V.ref d.r)
 rows:∀d∈ds,RowAt K H d
 pn:∀s∈ps,Nm s
 pl:ps.length<=100
 dl:ds.length<=100
def FunAt.mono {K:Kh} {H H':Hp} {f:Kg} {ps:List Str} {ds:List RowD} (h:FunAt K H f ps ds) (e:aB H H'):FunAt K H' f ps ds :=
 #[by let#[n,b,p,r,h1,h2,h3]:=h.fn; show#[n,b,p,r,e<*h1,e<*h2,e<*h3],λd hd=>(h.rows d hd)*>e,h.pn,h.pl,h.dl]
abbrev rowStrs (d:RowD):List Str:=d.gx.toList++strsOf d.as
abbrev allOf (ps:List Str) (ds:List RowD):List Str:=ps++ds.flatMap rowStrs
def strsOf_len (as:List V):(strsOf as).length<=as.length:=List.length_filterMap_le _ _
end K12
namespace K12
open PySem L2
section
variable {P:Program} {w:World} {K:Kh} {mg:Str->Kd Ke} {base:Heap}
abbrev m7 (H:Hp) (Q:VK) (vs:List V):Prop:=∀l H',aB H H'->H l=none->H' l=⇑(.lst vs)->Q ↥l H'
abbrev sp_gives (K:Kh):Sp:=λvs H Q _=>∃(r:Kg) (xs:List V) (g:Kd Str) (as:List V),vs=[↥r]/\aN K H r xs/\RowS K H xs g as/\Q (xv g) H
abbrev sp_atoms_of (K:Kh):Sp:=λvs H Q _=>∃(r:Kg) (xs:List V) (g:Kd Str) (as:List V),vs=[↥r]/\aN K H r xs/\RowS K H xs g as/\as.length<=10/\m7 H Q as
abbrev sp_each_once (K:Kh):Sp:=λvs H Q _=>∃(p:Kg) (ss:List Str),vs=[↥p]/\aG K H p (ss.map V.str)/\ss.length<=5000/\m7 H Q ((onceL ss).map V.str)
abbrev sp_reads (K:Kh):Sp:=λvs H Q _=>∃(r:Kg) (xs:List V) (g:Kd Str) (as:List V),vs=[↥r]/\aN K H r xs/\RowS K H xs g as/\as.length<=10/\(∀v∈as,Atom v)/\m7 H Q ((onceL (strsOf as)).map V.str)
abbrev sp_names_of (K:Kh):Sp:=λvs H Q _=>∃(f:Kg) (ps:List Str) (ds:List RowD),vs=[↥f]/\FunAt K H f ps ds/\m7 H Q ((onceL (allOf ps ds)).map V.str)
abbrev Bx (K:Kh):List V->Hp->VK->Prop:=λxs H Q=>∃x c t b,xs=[x,.ty c]/\TyOf K H x t/\W.kitOne K t (.type c)=⇑b/\Q (.bl b) H
def mL {n:Nat} (h:n<1000000):n<=sizeLine:=by
 have:(1000000:Nat)<sizeLine:=by decide
 lia
def eU {n:Nat} (h:n<1000000):n<sizeLine:=by
 have:(1000000:Nat)<sizeLine:=by decide
 lia
def sW {fs P G B:List Str} (h:onceL fs=onceL P):onceL (fs++G++onceL B)=onceL (P++(G++B)):=by have e:=E3 (fs++G) B [];rw[Ig,Ig] at e;rw[e,Iv];unfold onceL at h ⊢;rw[IC,h,<- IC]
abbrev lets:Str:="abcdefghijklmnopqrstuvwxyz"
def lets_ok:PyData.strOk lets=true:=by decide +kernel
end
end K12
namespace K13
open PySem L2
abbrev isO (s:Str):Bool:=decide (s="if") || decide (s="while")
abbrev isE (s:Str):Bool:=decide (s="else") || decide (s="end")
abbrev push (st:List Nat) (i:Nat) (s:Str):List Nat:=if isO s=true then i::st else if s="end" then st.tail else st
abbrev kd (ks:List Str) (i:Nat):Str:=ks.getD i ""
abbrev stk (ks:List Str):Nat->List Nat
 | 0=>[]
 | i+1=>push (stk ks i) i (kd ks i)
def cr (ks:List Str) (i:Nat):stk ks (i+1)=push (stk ks i) i (kd ks i):=rfl
def stk_lt (ks:List Str):∀i,∀x∈stk ks i,x<i/\isO (kd ks x)=true
 | 0,x,h=>by cases h
 | i+1,x,h=>by
   rw[cr] at h;unfold push at h;split at h
   . rcases HM.mp h with e|e
     . subst e;show#[Iw _,by assumption]
     . have:=stk_lt ks i x e;show#[∅,this.2]
   . split at h
     . have:=stk_lt ks i x (List.mem_of_mem_tail h);show#[∅,this.2]
     . have:=stk_lt ks i x h;show#[∅,this.2]
def rD (ks:List Str):∀i,(stk ks i).Nodup
 | 0=>JS
 | i+1=>by
   have ih:=rD ks i;rw[cr];unfold push;split
   . exact JG.mpr #[λz=>absurd (stk_lt ks i i z).1 (ID _),ih]
   . split
     . exact ih.tail
     . exact ih
variable {s:Str}
def isO_not_end (h:isO s=true):¬ s="end":=by intro e;subst e;revert h;decide +kernel
def isO_not_else (h:isO s=true):¬ s="else":=by intro e;subst e;revert h;decide +kernel
def m8:isO ("end":Str)=false:=by decide +kernel
structure Wf (ks:List Str):Prop where
 open_:∀i,i<ks.length->isE (kd ks i)=true->stk ks i≠[]
 els:∀i b r,i<ks.length->kd ks i="else"->stk ks i=b::r->kd ks b="if"
 shut:stk ks ks.length=[]
 last:∀i,i+1=ks.length->kd ks i="back"
 pos:0<ks.length
abbrev At (ks:List Str) (b j d:Nat):Prop:=∃pre,stk ks j=pre++b::stk ks b/\pre.length+1=d
variable {ks:List Str} {b:Nat}
def at_start (h:isO (kd ks b)=true):At ks b (b+1) 1:=#[[],by rw[cr]; unfold push; rw[HI h]; rfl,rfl]
variable {j d:Nat}
def at_open (h:At ks b j d) (ho:isO (kd ks j)=true):At ks b (j+1) (d+1):=by let#[pre,e,l]:=h;show#[j::pre,by rw[cr]; unfold push; rw[HI ho,e]; rfl,by simp [l]]
def at_end (h:At ks b j (d+1)) (hd:0<d) (he:kd ks j="end"):At ks b (j+1) d:=by
 let#[pre,e,l]:=h;cases pre with
 | nil=>simp at l; lia
 | cons p pre =>
   show#[pre,?_,by simpa using l];rw[cr];unfold push;rw[he,Gu (by rw[m8]; decide),HI rfl,e];rfl
def at_other (h:At ks b j d) (ho:¬ isO (kd ks j)=true) (he:¬ kd ks j="end"):At ks b (j+1) d:=by let#[pre,e,l]:=h;show#[pre,by rw[cr]; unfold push; rw[Gu ho,Gu he,e],l]
def at_one (h:At ks b j 1):stk ks j=b::stk ks b:=by
 let#[pre,e,l]:=h;cases pre with
 | nil=>exact e
 | cons p pre=>simp at l
def pb (w:Wf ks) (h:At ks b j d) (hj:j<=ks.length):j<ks.length:=by
 rcases Hk j ks.length with q|q
 . exact q
 . have e:j=ks.length:=by lia
   subst e;let#[pre,e,_]:=h;rw[w.shut] at e;simp at e
def A7 (h:At ks b j d):0<d:=by
 let#[pre,_,l]:=h
 lia
abbrev Ends (ks:List Str) (b e:Nat):Prop:=b<e/\e<ks.length/\kd ks e="end"/\stk ks e=b::stk ks b/\∀j,b<j->j<=e->∃d,At ks b j d
def ends_uniq {e e':Nat}(h:Ends ks b e) (h':Ends ks b e'):e=e':=by
 have key:∀{e e':Nat},Ends ks b e->Ends ks b e'->¬ e<e':=by
   intro e e' h h' hlt;let#[h1,h2,h3,h4,h5]:=h;let#[d,pre,q,_]:=h'.2.2.2.2 (e+1) ∅ hlt;rw[cr] at q;unfold push at q;rw[h3,Gu (by rw[m8]; decide),HI rfl,h4] at q;have:(stk ks b).length=(pre++b::stk ks b).length:=by rw[<- q]; rfl
   simp at this
   lia
 have a:=key h h';have b:=key h' h
 lia
def back_end (h:(stk ks (j+1))[d]?=⇑b) (he:kd ks j="end") (hne:stk ks j≠[]):(stk ks j)[d+1]?=⇑b:=by
 rw[cr] at h;unfold push at h;rw[he,Gu (by rw[m8]; decide),HI rfl] at h;cases q:stk ks j with
 | nil=>exact absurd q hne
 | cons x r=>rw[q] at h; exact h
def back_open (h:(stk ks (j+1))[d+1]?=⇑b) (ho:isO (kd ks j)=true):(stk ks j)[d]?=⇑b:=by rw[cr] at h;unfold push at h;rw[HI ho] at h;exact h
def back_found (h:(stk ks (j+1))[0]?=⇑b) (ho:isO (kd ks j)=true):b=j:=by
 rw[cr] at h;unfold push at h;rw[HI ho] at h;have:j=b:=↑h
 exact this.symm
def back_other (h:(stk ks (j+1))[d]?=⇑b) (ho:¬ isO (kd ks j)=true) (he:¬ kd ks j="end"):(stk ks j)[d]?=⇑b:=by rw[cr] at h;unfold push at h;rw[Gu ho,Gu he] at h;exact h
def back_pos (h:(stk ks j)[d]?=⇑b):0<j:=by
 cases j with
 | zero=>simp [stk] at h
 | succ j=>lia
def qm {ks:List Str} (w:Wf ks) {b:Nat}:∀(m j d:Nat),m=ks.length - j->j<=ks.length->b<j->(∀i,b<i->i<=j->∃d,At ks b i d)->At ks b j d->∃e,j<=e/\Ends ks b e
 | 0,j,d,hm,hj,hb,hall,h=>absurd (pb w h hj) ∅
 | m+1,j,d,hm,hj,hb,hall,h=>by
   have hlt:=pb w h hj;have go:∀d',At ks b (j+1) d'->∃e,j<=e/\Ends ks b e:=λd' h'=>by
     let#[e,he,q]:=qm w m (j+1) d' ∅ ∅ ∅ (λi h1 h2=>by
       rcases Hk j i with z|z
       . have:i=j+1:=by lia
         subst this;show#[d',h']
       . exact hall i h1 z) h'
     show#[e,∅,q]
   by_cases ho:isO (kd ks j)=true
   . exact go _ (at_open h ho)
   by_cases he:kd ks j="end"
   . have hp:=A7 h;by_cases hd:d=1
     . subst hd;show#[j,Gw _,hb,hlt,he,at_one h,hall]
     . obtain⟨d',rfl⟩:∃d',d=d'+1:=#[d - 1,∅]
       exact go _ (at_end h ∅ he)
   . exact go _ (at_other h ho he)
def ends_ex (w:Wf ks) (hb:b<ks.length) (ho:isO (kd ks b)=true):∃e,Ends ks b e:=by
 let#[e,_,h]:=qm w (ks.length - (b+1)) (b+1) 1 rfl ∅ ∅ (λi h1 h2=>by
   have:i=b+1:=by lia
   subst this;show#[(1),at_start ho]) (at_start ho)
 show#[e,h]
abbrev Hit (ks:List Str) (b k:Nat):Prop:=isE (kd ks k)=true/\(stk ks k).head?=⇑b
def hit_lt {k:Nat}(h:Hit ks b k):b<k/\isO (kd ks b)=true:=stk_lt ks k b (Ia h.2)
def mq {e:Nat}(h:Ends ks b e):Hit ks b e:=by
 show#[?_,?_]
 . rw[h.2.2.1]; decide +kernel
 . rw[h.2.2.2.1]; rfl
def pW {ks:List Str} {b e:Nat} (h:Ends ks b e):∀j,e<j->b ∉ stk ks j
 | 0,hj,_=>by lia
 | j+1,hj,hm=>by
   rcases Hk e j with q|q
   . have ih:=pW h j q;rw[cr] at hm;unfold push at hm;split at hm
     . rcases HM.mp hm with z|z
       . have:=h.1
         lia
       . exact ih z
     . split at hm
       . exact ih (List.mem_of_mem_tail hm)
       . exact ih hm
   . have e1:j=e:=by lia
     subst e1;rw[cr] at hm;unfold push at hm;rw[h.2.2.1,Gu (by rw[m8]; decide),HI rfl,h.2.2.2.1] at hm;have:=(stk_lt ks b b hm).1
     lia
def hit_le {e k:Nat}(h:Ends ks b e) (hk:Hit ks b k):k<=e:=by
 rcases Hk e k with q|q
 . exact absurd (Ia hk.2) (pW h k q)
 . exact q
abbrev one (ks:List Str) (i:Nat):List (Nat×Nat):=if isE (kd ks i)=true then(match stk ks i with | []=>[] | b::_=>[(i,b)]) else []
abbrev bZ (ks:List Str):Nat->List (Nat×Nat)
 | 0=>[]
 | i+1=>bZ ks i++one ks i
abbrev eJ (L:List (Nat×Nat)) (b:Nat):Kd Nat:=L.foldl (λacc p=>if p.2=b then ⇑p.1 else acc) none
abbrev ce (L:List (Nat×Nat)) (b:Nat):Kd Nat:=L.foldl (λacc p=>if acc.isSome=true then acc else if p.2=b then ⇑p.1 else none) none
def i9 (ks:List Str) (i:Nat):(∃b,one ks i=[(i,b)]/\Hit ks b i)\/(one ks i=[]/\∀b,¬ Hit ks b i):=by
 unfold one Hit;by_cases h:isE (kd ks i)=true
 . rw[HI h];cases q:stk ks i with
   | nil=>exact .inr #[rfl,λb z=>by simp at z]
   | cons b r=>exact .inl #[b,rfl,h,rfl]
 . rw[Gu h];exact .inr #[rfl,λb z=>h z.1]
def qy (L:List (Nat×Nat)) (p:Nat×Nat) (b:Nat):eJ (L++[p]) b=if p.2=b then ⇑p.1 else eJ L b:=by unfold eJ; rw[IC]; rfl
def qO (L:List (Nat×Nat)) (p:Nat×Nat) (b:Nat):ce (L++[p]) b=if(ce L b).isSome=true then ce L b else if p.2=b then ⇑p.1 else none:=by unfold ce; rw[IC]; rfl
def m4 {b' k:Nat}(h:Hit ks b k) (h':Hit ks b' k):b=b':=by have:=h.2.symm\h'.2;simpa using this
def rG (ks:List Str) (b:Nat):∀i,(∀m,eJ (bZ ks i) b=⇑m->m<i/\Hit ks b m/\∀k,m<k->k<i->¬ Hit ks b k)/\(eJ (bZ ks i) b=none->∀k,k<i->¬ Hit ks b k)
 | 0=>#[λm h=>(by cases h),λ_ k hk=>∅]
 | i+1=>by
   let#[ih1,ih2]:=rG ks b i;show(∀m,eJ (bZ ks i++one ks i) b=⇑m->_)/\(eJ (bZ ks i++one ks i) b=none->_)
   rcases i9 ks i with⟨b',e,hh⟩|⟨e,hn⟩
   . rw[e,qy];by_cases hb:b'=b
     . rw[HI hb];subst hb;show#[λm h=>by cases h; show#[Iw _,hh,λk h1 h2=>by lia],λh=>by cases h]
     . rw[Gu hb];show#[λm h=>?_,λh k hk=>?_]
       . let#[h1,h2,h3]:=ih1 m h;show#[∅,h2,λk q1 q2 hk=>?_];rcases Hk k i with z|z
         . exact h3 k q1 z hk
         . have:k=i:=by lia
           subst this;exact hb (m4 hh hk)
       . intro hk';rcases Hk k i with z|z
         . exact ih2 h k z hk'
         . have:k=i:=by lia
           subst this;exact hb (m4 hh hk')
   . rw[e,Ig];show#[λm h=>?_,λh k hk hk'=>?_]
     . let#[h1,h2,h3]:=ih1 m h;show#[∅,h2,λk q1 q2 hk=>?_];rcases Hk k i with z|z
       . exact h3 k q1 z hk
       . have:k=i:=by lia
         subst this;exact hn b hk
     . rcases Hk k i with z|z
       . exact ih2 h k z hk'
       . have:k=i:=by lia
         subst this;exact hn b hk'
def lH (ks:List Str) (b:Nat):∀i,(∀m,ce (bZ ks i) b=⇑m->m<i/\Hit ks b m/\∀k,k<m->¬ Hit ks b k)/\(ce (bZ ks i) b=none->∀k,k<i->¬ Hit ks b k)
 | 0=>#[λm h=>(by cases h),λ_ k hk=>∅]
 | i+1=>by
   let#[ih1,ih2]:=lH ks b i;show(∀m,ce (bZ ks i++one ks i) b=⇑m->_)/\(ce (bZ ks i++one ks i) b=none->_)
   rcases i9 ks i with⟨b',e,hh⟩|⟨e,hn⟩
   . rw[e,qO];cases hf:ce (bZ ks i) b with
     | some m0 =>
       rw[HI (show(⇑m0).isSome=true from rfl)];let#[h1,h2,h3]:=ih1 m0 hf;show#[λm h=>by cases h; show#[∅,h2,h3],λh=>by cases h]
     | none =>
       rw[Gu (show ¬ (none:Kd Nat).isSome=true by decide)];have hno:=ih2 hf;by_cases hb:b'=b
       . rw[HI hb];subst hb;show#[λm h=>by cases h; show#[Iw _,hh,λk hk=>hno k hk],λh=>by cases h]
       . rw[Gu hb];show#[λm h=>(by cases h),λ_ k hk hk'=>?_];rcases Hk k i with z|z
         . exact hno k z hk'
         . have:k=i:=by lia
           subst this;exact hb (m4 hh hk')
   . rw[e,Ig];show#[λm h=>?_,λh k hk hk'=>?_]
     . let#[h1,h2,h3]:=ih1 m h;show#[∅,h2,h3]
     . rcases Hk k i with z|z
       . exact ih2 h k z hk'
       . have:k=i:=by lia
         subst this;exact hn b hk'
def Db {e:Nat}(h:Ends ks b e):eJ (bZ ks ks.length) b=⇑e:=by
 let#[h1,h2]:=rG ks b ks.length;cases q:eJ (bZ ks ks.length) b with
 | none=>exact absurd (mq h) (h2 q e h.2.1)
 | some m =>
   let#[q1,q2,q3]:=h1 m q;have:=hit_le h q2;rcases Hk m e with z|z
   . exact absurd (mq h) (q3 e z h.2.1)
   . have:m=e:=by lia
     rw[this]
abbrev First (ks:List Str) (b f:Nat):Prop:=f<ks.length/\Hit ks b f/\∀k,k<f->¬ Hit ks b k
def first_uniq {f f':Nat}(h:First ks b f) (h':First ks b f'):f=f':=by
 rcases Nat.lt_trichotomy f f' with z|z|z
 . exact absurd h.2.1 (h'.2.2 f z)
 . exact z
 . exact absurd h'.2.1 (h.2.2 f' z)
def F4 {f:Nat}(h:First ks b f):ce (bZ ks ks.length) b=⇑f:=by
 let#[h1,h2]:=lH ks b ks.length;cases q:ce (bZ ks ks.length) b with
 | none=>exact absurd h.2.1 (h2 q f h.1)
 | some m =>
   let#[q1,q2,q3]:=h1 m q;rw[first_uniq (#[q1,q2,q3]:First ks b m) h]
def Ci (h:¬ isO (kd ks b)=true):ce (bZ ks ks.length) b=none:=by
 let#[h1,h2]:=lH ks b ks.length;cases q:ce (bZ ks ks.length) b with
 | none=>rfl
 | some m=>exact absurd (hit_lt (h1 m q).2.1).2 h
inductive Beh (ks:List Str):Nat->Nat->Prop
 | els {k b e r:Nat}:kd ks (k+1)="else"->(stk ks (k+1)).head?=⇑b->Ends ks b e->Beh ks e r->Beh ks k r
 | whl {k b:Nat}:kd ks (k+1)="end"->(stk ks (k+1)).head?=⇑b->kd ks b="while"->Beh ks k b
 | fin {k b r:Nat}:kd ks (k+1)="end"->(stk ks (k+1)).head?=⇑b->¬ kd ks b="while"->Beh ks (k+1) r->Beh ks k r
 | oth {k:Nat}:¬ kd ks (k+1)="else"->¬ kd ks (k+1)="end"->Beh ks k (k+1)
def els_fin:¬ (("else":Str)="end"):=by decide +kernel
def Beh.uniq {k r:Nat} (h:Beh ks k r):∀{r':Nat},Beh ks k r'->r=r':=by
 induction h with
 | els h1 h2 h3 h4 ih =>
   intro r' h';cases h' with
   | els g1 g2 g3 g4 =>
     have hb:=Option.some.inj (h2.symm\g2);subst hb;have he:=ends_uniq h3 g3;subst he;exact ih g4
   | whl g1 _ _=>exact absurd (h1.symm\g1) els_fin
   | fin g1 _ _ _=>exact absurd (h1.symm\g1) els_fin
   | oth g1 _=>exact absurd h1 g1
 | whl h1 h2 h3 =>
   intro r' h';cases h' with
   | els g1 _ _ _=>exact absurd (g1.symm\h1) els_fin
   | whl g1 g2 g3=>exact Option.some.inj (h2.symm\g2)
   | fin g1 g2 g3 _ =>
     have hb:=Option.some.inj (h2.symm\g2);subst hb;exact absurd h3 g3
   | oth _ g2=>exact absurd h1 g2
 | fin h1 h2 h3 h4 ih =>
   intro r' h';cases h' with
   | els g1 _ _ _=>exact absurd (g1.symm\h1) els_fin
   | whl g1 g2 g3 =>
     have hb:=Option.some.inj (h2.symm\g2);subst hb;exact absurd g3 h3
   | fin g1 g2 g3 g4=>exact ih g4
   | oth _ g2=>exact absurd h1 g2
 | oth h1 h2 =>
   intro r' h';cases h' with
   | els g1 _ _ _=>exact absurd g1 h1
   | whl g1 _ _=>exact absurd g1 h2
   | fin g1 _ _ _=>exact absurd g1 h2
   | oth _ _=>rfl
def back_ne:¬ (("back":Str)="else")/\¬ (("back":Str)="end"):=by decide +kernel
def beh_ex {ks:List Str} (w:Wf ks):∀(m k:Nat),m=ks.length - k->k+1<ks.length->∃r,Beh ks k r/\r<ks.length
 | 0,k,hm,hk=>by lia
 | m+1,k,hm,hk=>by
   have ih:∀k',k<k'->k'+1<ks.length->∃r,Beh ks k' r/\r<ks.length:=λk' h1 h2=>by
     have:∀(m':Nat),m'<=m->m'=ks.length - k'->∃r,Beh ks k' r/\r<ks.length:=λm' h3 h4=>by exact beh_ex w m' k' h4 h2
     exact this (ks.length - k') ∅ rfl
   have am:isE (kd ks (k+1))=true->∃b,(stk ks (k+1)).head?=⇑b:=λh=>by
     cases q:stk ks (k+1) with
     | nil=>exact absurd q (w.open_ (k+1) hk h)
     | cons b r=>show#[b,rfl]
   by_cases he:kd ks (k+1)="else"
   . let#[b,hb]:=am (by rw[he]; decide +kernel);have hbo:=stk_lt ks (k+1) b (Ia hb);let#[e,hE]:=ends_ex w ∅ hbo.2;have h1:k+1<=e:=hit_le hE #[by rw[he]; decide +kernel,hb];have h2:e+1<ks.length:=by
       rcases Hk (e+1) ks.length with z|z
       . exact z
       . have:=w.last e (by have:=hE.2.1; lia);rw[hE.2.2.1] at this;exact absurd this.symm back_ne.2
     let#[r,hr,hl]:=ih e ∅ h2;show#[r,.els he hb hE hr,hl]
   by_cases hf:kd ks (k+1)="end"
   . let#[b,hb]:=am (by rw[hf]; decide +kernel);have hbo:=stk_lt ks (k+1) b (Ia hb);by_cases hw:kd ks b="while"
     . show#[b,.whl hf hb hw,∅]
     . have h2:k+1+1<ks.length:=by
         rcases Hk (k+1+1) ks.length with z|z
         . exact z
         . have:=w.last (k+1) ∅;rw[hf] at this;exact absurd this.symm back_ne.2
       let#[r,hr,hl]:=ih (k+1) ∅ h2;show#[r,.fin hf hb hw hr,hl]
   . show#[k+1,.oth he hf,hk]
termination_by m=>m
def at_depth {d':Nat}(h:At ks b j d) (h':At ks b j d'):d=d':=by
 let#[pre,e,l]:=h;let#[pre',e',l']:=h';have:=HY List.length (e.symm\e');simp at this
 lia
def at_top (h:At ks b j d) (ht:(stk ks j).head?=⇑b):d=1:=by
 let#[pre,e,l]:=h;cases pre with
 | nil=>simpa using l.symm
 | cons p pre =>
   exfalso;have hp:p=b:=by rw[e] at ht;simpa using ht
   have hnd:=rD ks j;rw[e,hp] at hnd;simp at hnd
def kO (h:isO s=true):¬ isE s=true:=by unfold isE;rw[Hg (isO_not_else h),Hg (isO_not_end h)];decide
def isE_or (h1:¬ s="else") (h2:¬ s="end"):¬ isE s=true:=by unfold isE;rw[Hg h1,Hg h2];decide
def DS (w:Wf ks) {e:Nat}(he:e<ks.length) (h:kd ks e="end") (ht:(stk ks e).head?=⇑b):Ends ks b e:=by have hb:=stk_lt ks e b (Ia ht);let#[e',hE]:=ends_ex w ∅ hb.2;have hle:e<=e':=hit_le hE #[by rw[h]; decide +kernel,ht];let#[d,hA]:=hE.2.2.2.2 e ∅ hle;have hd:=at_top hA ht;subst hd;show#[hb.1,he,h,at_one hA,λj h1 h2=>hE.2.2.2.2 j h1 ∅]
inductive Due (ks:List Str):Nat->Option (List Nat)->Prop
 | no {k:Nat}:isE (kd ks k)=true->Due ks k none
 | back {k:Nat}:kd ks k="back"->Due ks k ⇑[]
 | two {k f r1 r2:Nat}:isO (kd ks k)=true->First ks k f->Beh ks k r1->Beh ks f r2->Due ks k ⇑[r1,r2]
 | one {k r:Nat}:¬ isE (kd ks k)=true->¬ kd ks k="back"->¬ isO (kd ks k)=true->Beh ks k r->Due ks k ⇑[r]
def back_E:¬ isE ("back":Str)=true:=by decide +kernel
def back_O:¬ isO ("back":Str)=true:=by decide +kernel
def Due.uniq {ks:List Str} {k:Nat} {o o':Kd (List Nat)} (h:Due ks k o) (h':Due ks k o'):o=o':=by
 cases h with
 | no h =>
   cases h' with
   | no _=>rfl
   | back g=>rw[g] at h; exact absurd h back_E
   | two g _ _ _=>exact absurd h (kO g)
   | one g _ _ _=>exact absurd h g
 | back h =>
   cases h' with
   | no g=>rw[h] at g; exact absurd g back_E
   | back _=>rfl
   | two g _ _ _=>rw[h] at g; exact absurd g back_O
   | one _ g _ _=>exact absurd h g
 | two h1 h2 h3 h4 =>
   cases h' with
   | no g=>exact absurd g (kO h1)
   | back g=>rw[g] at h1; exact absurd h1 back_O
   | two g1 g2 g3 g4 =>
     have:=first_uniq h2 g2;subst this;rw[h3.uniq g3,h4.uniq g4]
   | one _ _ g _=>exact absurd h1 g
 | one h1 h2 h3 h4 =>
   cases h' with
   | no g=>exact absurd g h1
   | back g=>exact absurd g h2
   | two g _ _ _=>exact absurd g h3
   | one _ _ _ g=>rw[h4.uniq g]
def n9 {e:Nat}(h:Ends ks b e):∃f,First ks b f:=by
 let#[h1,h2]:=lH ks b ks.length;cases q:ce (bZ ks ks.length) b with
 | none=>exact absurd (mq h) (h2 q e h.2.1)
 | some m =>
   let#[q1,q2,q3]:=h1 m q;show#[m,q1,q2,q3]
def not_last (w:Wf ks) {k:Nat} (hk:k<ks.length) (h:¬ kd ks k="back"):k+1<ks.length:=by
 rcases Hk (k+1) ks.length with z|z
 . exact z
 . exact absurd (w.last k ∅) h
def first_last (w:Wf ks) {f:Nat}(h:First ks b f):f+1<ks.length:=by refine not_last w h.1 λz=>?_;have:=h.2.1.1;rw[z] at this;exact back_E this
def while_first (w:Wf ks) {e:Nat}(h:Ends ks b e) (hw:kd ks b="while"):First ks b e:=by
 let#[f,hf]:=n9 h;have hle:=hit_le h hf.2.1;have hfe:kd ks f="end":=by
   have h1:=hf.2.1.1;unfold isE at h1;rw[Ka,Ie,Ie] at h1;rcases h1 with z|z
   . exfalso;cases q:stk ks f with
     | nil=>have:=hf.2.1.2; rw[q] at this; cases this
     | cons x r =>
       have hx:x=b:=by have:=hf.2.1.2; rw[q] at this; simpa using this
       have:=w.els f x r hf.1 z q;rw[hx,hw] at this;revert this;decide +kernel
   . exact z
 have:f=e:=ends_uniq (DS w hf.1 hfe hf.2.1.2) h;rw[<- this];exact hf
def due_ex (w:Wf ks) {k:Nat} (hk:k<ks.length):∃o,Due ks k o:=by
 by_cases h1:isE (kd ks k)=true
 . show#[_,.no h1]
 by_cases h2:kd ks k="back"
 . show#[_,.back h2]
 let#[r,hr,_]:=beh_ex w _ k rfl (not_last w hk h2);by_cases h3:isO (kd ks k)=true
 . let#[e,hE]:=ends_ex w hk h3;let#[f,hf]:=n9 hE;let#[r2,hr2,_]:=beh_ex w _ f rfl (first_last w hf);show#[_,.two h3 hf hr hr2]
 . show#[_,.one h1 h2 h3 hr]
variable {i:Nat}
def ig {ys:List Str}(h:i<ks.length):kd (ks++ys) i=kd ks i:=by unfold kd;rw[IX,IX,IB h]
def yu (ks ys:List Str) (i:Nat):kd (ks++ys) (ks.length+i)=kd ys i:=by unfold kd;rw[IX,IX,II (KQ _ _),Nat.add_sub_cancel_left]
def kd_last (ks:List Str) (x:Str):kd (ks++[x]) ks.length=x:=by have:=yu ks [x] 0;rw[Nat.add_zero] at this;rw[this];rfl
def lg (ks ys:List Str):∀i,i<=ks.length->stk (ks++ys) i=stk ks i
 | 0,_=>rfl
 | i+1,h=>by rw[cr,cr,lg ks ys i ∅,ig ∅]
structure Good (ks os:List Str):Prop where
 open_:∀i,i<ks.length->isE (kd ks i)=true->stk ks i≠[]
 els:∀i b r,i<ks.length->kd ks i="else"->stk ks i=b::r->kd ks b="if"
 len:(stk ks ks.length).length=os.length
 mt:∀(i b:Nat),(stk ks ks.length)[i]?=⇑b->os[i]?=some "if"->kd ks b="if"
def good_nil:Good [] []:=#[λi h=>absurd h (Iz i),λi _ _ h=>absurd h (Iz i),rfl,λi b h=>by cases h]
def pV (ks:List Str) (x:Str):stk (ks++[x]) (ks++[x]).length=push (stk ks ks.length) ks.length x:=by rw[Gv];show stk (ks++[x]) (ks.length+1)=_;rw[cr,lg _ _ _ (Gw _),kd_last]
variable {os:List Str}
def Good.snoc {os':List Str}{x:Str} (g:Good ks os) (ho:isE x=true->os≠[]) (he:x="else"->∃r,os=("if":Str)::r)
   (hl:(push (stk ks ks.length) ks.length x).length=os'.length) (hm:∀(i b:Nat),(push (stk ks ks.length) ks.length x)[i]?=⇑b->os'[i]?=some "if"->kd (ks++[x]) b="if"):Good (ks++[x]) os':=by
 have hn:(ks++[x]).length=ks.length+1:=by rw[Gv]; rfl
 show#[λi h hE=>?_,λi b r h hE hs=>?_,by rw[pV]; exact hl,by rw[pV]; exact hm]
 . rw[lg _ _ _ ∅];rcases Hk i ks.length with z|z
   . rw[ig z] at hE;exact g.open_ i z hE
   . have:i=ks.length:=by lia
     subst this;rw[kd_last] at hE;intro e;have:=g.len;rw[e] at this;exact ho hE (J6.mp this.symm)
 . rw[lg _ _ _ ∅] at hs;rcases Hk i ks.length with z|z
   . rw[ig z] at hE;have hb:=(stk_lt ks i b (by rw[hs]; exact HH)).1;rw[ig ∅];exact g.els i b r z hE hs
   . have:i=ks.length:=by lia
     subst this;rw[kd_last] at hE;let#[r',e]:=he hE;have hb:=(stk_lt ks ks.length b (by rw[hs]; exact HH)).1;rw[ig hb];exact g.mt 0 b (by rw[hs]; rfl) (by rw[e]; rfl)
def Good.keep (g:Good ks os) (x:Str) (h:(stk ks ks.length)[i]?=⇑b) (h':os[i]?=some "if"):kd (ks++[x]) b="if":=by have hb:=(stk_lt ks ks.length b (He h)).1;rw[ig hb];exact g.mt i b h h'
def Good.opn {x:Str} (g:Good ks os) (ho:isO x=true):Good (ks++[x]) (x::os):=by
 have e:push (stk ks ks.length) ks.length x=ks.length::stk ks ks.length:=by unfold push; rw[HI ho]
 refine g.snoc (λz=>absurd z (kO ho)) (λz=>absurd z (isO_not_else ho)) (by rw[e,Hs,Hs,g.len]) ?_;rw[e];intro i b h h';cases i with
 | zero =>
   have h1:ks.length=b:=↑h
   have h2:x="if":=↑h'
   rw[<- h1,kd_last];exact h2
 | succ i=>exact g.keep x ↑h ↑h'
def Good.plain {x:Str} (g:Good ks os) (h1:¬ isO x=true) (h2:¬ isE x=true) (h3:¬ x="end"):Good (ks++[x]) os:=by
 have e:push (stk ks ks.length) ks.length x=stk ks ks.length:=by unfold push; rw[Gu h1,Gu h3]
 refine g.snoc (λz=>absurd z h2) (λz=>absurd (by rw[z]; decide +kernel) h2) (by rw[e,g.len]) ?_;rw[e];intro i b h h';exact g.keep x h h'
def Good.els' {r:List Str}(g:Good ks (("if":Str)::r)):Good (ks++[("else":Str)]) (("else":Str)::r):=by
 have e:push (stk ks ks.length) ks.length "else"=stk ks ks.length:=by unfold push; rw[Gu 0x7,Gu els_fin]
 refine g.snoc (λ_=>List.cons_ne_nil _ _) (λ_=>#[r,rfl]) (by rw[e,g.len]; rfl) ?_;rw[e];intro i b h h';cases i with
 | zero =>
   have:("else":Str)="if":=↑h'
   exact absurd this 0x7
 | succ i=>exact g.keep _ h ↑h'
def Good.fin {ks r:List Str} {o:Str} (g:Good ks (o::r)):Good (ks++[("end":Str)]) r:=by
 have e:push (stk ks ks.length) ks.length "end"=(stk ks ks.length).tail:=by unfold push; rw[Gu 0x7,HI rfl]
 have l:=g.len;rw[Hs] at l;refine g.snoc (λ_=>List.cons_ne_nil _ _) (λz=>absurd z.symm els_fin) (by rw[e,List.length_tail]; lia) ?_;rw[e];intro i b h h';rw[List.getElem?_tail] at h;exact g.keep _ h ↑h'
def Good.ends {ks:List Str}:∀{os:List Str},Good ks os->∀j,j<=os.length->Good (ks++List.replicate j ("end":Str)) (os.drop j)
 | os,g,0,_=>by simpa using g
 | os,g,j+1,h=>by have ih:=Good.ends g j ∅;have e:os.drop j=os[j]::os.drop (j+1):=KL ∅;rw[e] at ih;have:=ih.fin;rw[Iv] at this;rw[List.replicate_succ'];exact this
def Good.back (g:Good ks []):Wf (ks++[("back":Str)]):=by
 have hs:stk ks ks.length=[]:=J6.mp g.len;have g':=g.plain back_O back_E 0x7;show#[g'.open_,g'.els,J6.mp g'.len,λi h=>?_,by rw[Gv]; exact Nat.succ_pos _];have:i=ks.length:=by rw[Gv] at h; simpa using h
 rw[this,kd_last]
structure RowsAt (K:W.Frag) (H:Hp) (a:Addr) (ks:List Str):Prop where
 ex:∃rs:List Addr,aN K H a (rs.map V.ref)/\rs.length=ks.length/\∀i r,rs[i]?=⇑r->∃rest,aN K H r (V.str (kd ks i)::rest)
variable {K:Kh} {H H':Hp} {a:Kg}
def RowsAt.mono (h:RowsAt K H a ks) (e:aB H H'):RowsAt K H' a ks :=
 #[by let#[rs,h1,h2,h3]:=h.ex; show#[rs,e<*h1,h2,λi r q=>by let#[rest,z]:=h3 i r q; show#[rest,e<*z]]]
def aP {x:V} {r:List V}:bD (x::r) 0=⇑x:=by unfold bD d9;rw[HI #[],HI 0xA];rfl
def ixk {Q:VK} {i:Int} (h:RowsAt K H a ks) (h0:0<=i) (h1:i<ks.length) (q:Q (.str (kd ks i.toNat)) H):fL K ↥a (.int i) H λx H1=>fL K x (.int 0) H1 Q:=by
 let#[rs,e1,e2,e3]:=h.ex;have hi:i.toNat<rs.length:=by lia
 let#[rest,hr]:=e3 i.toNat rs[i.toNat] (by simp [hi]);show#[a,_,i,.ref rs[i.toNat],7,e1,?_,rs[i.toNat],_,(0),11,hr,aP,q];have e:bD (rs.map V.ref) i=⇑(V.ref rs[i.toNat]):=by unfold bD d9;rw[HI h0,HI (by rw[Go]; lia),Jm,HV];simp [hi]
 exact e
abbrev fB (L:List (Nat×Nat)):List (aE×V):=L.map λp=>(Sum.inl (p.1:Int),V.int (p.2:Int))
abbrev bg (ks:List Str) (i:Nat):List (aE×V):=fB (bZ ks i)
def px (ks:List Str):∀i,∀p∈bZ ks i,p.1<i
 | 0,p,h=>by cases h
 | i+1,p,h=>by
   rcases HW.mp h with h|h
   . have:=px ks i p h
     lia
   . rcases i9 ks i with⟨b,e,_⟩|⟨e,_⟩
     . rw[e] at h;have:p=(i,b):=↑h
       rw[this];exact Iw _
     . rw[e] at h;cases h
def GZ (ks:List Str) (i:Nat):aZ (bg ks i) (Sum.inl (i:Int):aE)=none:=by
 have h:=gu (Sum.inl (i:Int):aE) (bg ks i);cases q:aZ (bg ks i) (Sum.inl (i:Int):aE) with
 | none=>rfl
 | some v =>
   rw[q] at h;let#[kv,hm,e]:=Jl.mp h;let#[p,hp,rfl]:=HX.mp hm;have e:=Ht e;have:(p.1:Int)=(i:Int):=Sum.inl.inj e;have:=px ks i p hp
   lia
def mS (h:Hit ks b i):aQ (bg ks i) (Sum.inl (i:Int):aE) (V.int (b:Int))=bg ks (i+1):=by
 rw[sL _ (GZ ks i)];rcases i9 ks i with⟨b',e,h'⟩|⟨e,h'⟩
 . show fB (bZ ks i)++_=fB (bZ ks i++one ks i);rw[e,m4 h h'];unfold fB;rw[Gy];rfl
 . exact absurd h (h' b)
def pj (h:¬ isE (kd ks i)=true):bg ks (i+1)=bg ks i:=by
 rcases i9 ks i with⟨b',e,h'⟩|⟨e,h'⟩
 . exact absurd h'.1 h
 . show fB (bZ ks i++one ks i)=_;rw[e,Ig];rfl
def mi (ks:List Str):∀i,(bZ ks i).length<=i
 | 0=>Gw _
 | i+1=>by have:=mi ks i;show(bZ ks i++one ks i).length<=i+1;rw[Gv];rcases i9 ks i with⟨b',e,h'⟩|⟨e,h'⟩ <;> rw[e] <;> simp <;> lia
def nW (ks:List Str) (i:Nat):(bg ks i).length<=i:=by unfold bg fB; rw[Go]; exact mi ks i
abbrev dq (ks:List Str) (i:Nat):List V:=(stk ks i).reverse.map λ(n:Nat)=>V.int (n:Int)
def uH (ks:List Str):∀i,(dq ks i).length<=i:=by
 intro i;unfold dq;rw[Go,K0]
 induction i with
 | zero=>exact Gw _
 | succ i ih =>
   rw[cr];unfold push;split
   . simp; lia
   . split
     . simp; lia
     . lia
def inO (s:Str):cS (.str s) [V.str "if",V.str "while"]=isO s:=by show((("if":Str)==s) || ((("while":Str)==s) || false))=isO s;unfold isO;rw[Kc];congr 1 <;> (rw[Ip,Kb,Ie]; exact eq_comm)
def inE (s:Str):cS (.str s) [V.str "else",V.str "end"]=isE s:=by show((("else":Str)==s) || ((("end":Str)==s) || false))=isE s;unfold isE;rw[Kc];congr 1 <;> (rw[Ip,Kb,Ie]; exact eq_comm)
def cM:0<=sizeLine:=by decide
def d6:1<=sizeLine:=by decide
def bE:2<=sizeLine:=by decide
def eU {n:Nat} (h:n<1000000):n<sizeLine:=by
 have:(1000000:Nat)<sizeLine:=by decide
 lia
def qX {r:List Nat} (h:stk ks i=b::r):bD (dq ks i) (-1)=⇑(.int (b:Int))/\(dq ks i)[(dq ks i).length - 1]?=⇑(.int (b:Int))/\(dq ks i).dropLast=r.reverse.map λ(n:Nat)=>V.int (n:Int):=by
 have e:dq ks i=(r.reverse.map λ(n:Nat)=>V.int (n:Int))++[V.int (b:Int)]:=by unfold dq;rw[h,KH,Gy];rfl
 rw[e];show#[?_,by simp,by simp];unfold bD d9;rw[Gu #[],HI (by simp; lia),Jm];have:((-1:Int)+(((r.reverse.map λ(n:Nat)=>V.int (n:Int))++[V.int (b:Int)]).length:Int)).toNat=(r.reverse.map λ(n:Nat)=>V.int (n:Int)).length:=by
   rw[Gv];simp
   lia
 rw[this];simp
def uv {q:Kg}{xs:List V} {kvs:List (aE×V)} {o:HO} (h:aN K H a xs) (hq:H q=⇑(.dK kvs)):aN K (upd H q o) a xs:=by
 rcases h with(h|⟨o,h⟩)|h
 . exact .inl (.inl (by rw[aJ (fR h hq 0x6)]; exact h))
 . exact .inl (.inr #[o,by rw[aJ (fR h hq 0x6)]; exact h])
 . exact .inr h
def RowsAt.frz {K:Kh} {H:Hp} {a q:Kg} {ks:List Str} {kvs:List (aE×V)} {o:HO} (h:RowsAt K H a ks) (hq:H q=⇑(.dK kvs)):RowsAt K (upd H q o) a ks :=
 #[by let#[rs,h1,h2,h3]:=h.ex; show#[rs,uv h1 hq,h2,λi r z=>by let#[rest,y]:=h3 i r z; show#[rest,uv y hq]]]
abbrev rV (H:Hp) (l:Kg) (ks:List Str):Prop:=∃bs,H l=⇑(.lst bs)/\bs.length=ks.length/\∀k,k+1<ks.length->∃r:Nat,Beh ks k r/\bs[k]?=⇑(.int (r:Int))
abbrev ub (n:Nat):List V:=(List.replicate n [V.non]).flatten
def DA (n:Nat):(ub n).length=n:=by unfold ub; rw[uV]; simp
def qx {k:Nat}(n:Nat) (hk:k<n) (h:Hit ks b k):aZ (bg ks n) (Sum.inl (k:Int):aE)=⇑(.int (b:Int)):=by
 induction n with
 | zero=>lia
 | succ n ih =>
   rcases Hk k n with z|z
   . rcases i9 ks n with⟨b',e,h'⟩|⟨e,h'⟩
     . rw[<- mS h',dj,Gu (λz'=>by have:(k:Int)=(n:Int):=Sum.inl.inj z'; lia)];exact ih z
     . have:bg ks (n+1)=bg ks n:=by show fB (bZ ks n++one ks n)=_;rw[e,Ig];rfl
       rw[this];exact ih z
   . have:k=n:=by lia
     subst this;rw[<- mS h,dj,HI rfl]
def pZ {n:Nat}{kv:aE×V} (h:(bg ks n)[i]?=⇑kv):∃p:Nat×Nat,(bZ ks n)[i]?=⇑p/\kv=(Sum.inl (p.1:Int),V.int (p.2:Int)):=by
 unfold bg fB at h;rw[HV] at h;cases q:(bZ ks n)[i]? with
 | none=>rw[q] at h; cases h
 | some p=>rw[q] at h; show#[p,rfl,by simpa using h.symm]
abbrev natsV (l:List Nat):List V:=l.map λ(n:Nat)=>V.int (n:Int)
abbrev fA (H:Hp) (v:V):Kd (List Nat)->Prop
 | none=>v=.non
 | some l=>∃p,v=↥p/\H p=⇑(.tup (natsV l))
def fA.mono {v:V} {o:Kd (List Nat)} (h:fA H v o) (e:aB H H'):fA H' v o:=by
 cases o with
 | none=>exact h
 | some l=>let#[p,h1,h2]:=h; show#[p,h1,e _ _ h2]
def fA.lst {H:Hp} {q:Kg} {l l':List V} {v:V} {o:Kd (List Nat)} (h:fA H v o) (hq:H q=⇑(.lst l)):fA (upd H q (.lst l')) v o:=by
 cases o with
 | none=>exact h
 | some l=>let#[p,h1,h2]:=h; show#[p,h1,by rw[aJ (fR h2 hq 0x6)]; exact h2]
abbrev FoundN (H:Hp) (l:Kg) (ks:List Str) (i:Nat):Prop:=∃vs:List V,H l=⇑(.lst vs)/\vs.length=i/\∀k v,vs[k]?=⇑v->∃o,Due ks k o/\fA H v o
def FoundN.mono {H H':Hp} {l:Kg} {ks:List Str} {i:Nat} (h:FoundN H l ks i) (e:aB H H'):FoundN H' l ks i :=
 by let#[vs,h1,h2,h3]:=h; show#[vs,e _ _ h1,h2,λk v q=>by let#[o,d,z]:=h3 k v q; show#[o,d,z*>e]]
def FoundN.push {l:Kg} {vs:List V} {v:V} {o:Kd (List Nat)} (h1:H l=⇑(.lst vs)) (h2:vs.length=i) (h3:∀k v,vs[k]?=⇑v->∃o,Due ks k o/\fA H v o) (hd:Due ks i o) (hv:fA H v o):FoundN (upd H l (.lst (vs++[v]))) l ks (i+1):=by
 show#[_,aI,by rw[Gv,h2]; rfl,λk v' q=>?_];rcases Hk k vs.length with z|z
 . rw[IB z] at q;let#[o',d,y]:=h3 k v' q;show#[o',d,y.lst h1]
 . rw[II z] at q;have hk:k - vs.length=0:=by
     rcases Nat.eq_zero_or_pos (k - vs.length) with y|y
     . exact y
     . rw[Im (by simp; lia)] at q;cases q
   rw[hk] at q;have hv':v=v':=↑q
   subst hv';have:k=i:=by lia
   subst this;show#[o,hd,hv.lst h1]
def datV_nil {p:Kg} (h:H p=⇑(.lst [])):bP K H (.list []) ↥p:=by unfold bP;show#[p,[],rfl,aG.of h,by unfold cJ; rfl]
def shaped_nil:SeqAt.shaped (.list [])=true:=by decide +kernel
def GR:PyData.eqv (.list []) (.list [])=true:=by decide +kernel
section
variable {P:Program} {w:World} {K:Kh} {mg:Str->Kd Ke} {base:Heap}
abbrev sp_begins_of (K:Kh):Sp:=λvs H Q _=>∃(a:Kg) (ks:List Str),vs=[↥a]/\RowsAt K H a ks/\Wf ks/\ks.length<=1000/\∀d H',aB H H'->H d=none->H' d=⇑(.dK (bg ks ks.length))->Q ↥d H'
abbrev sp_firsts_behind (K:Kh):Sp:=λvs H Q _=>∃(a d:Kg) (ks:List Str),vs=[↥a,↥d]/\RowsAt K H a ks/\Wf ks/\ks.length<=1000/\H d=⇑(.dK (bg ks ks.length))/\∀l o H',aB (upd H d (.frz o (.dK (bg ks ks.length)))) H'->H l=none->rV H' l ks->Q ↥l H'
abbrev sp_ways (K:Kh):Sp:=λvs H Q _=>∃(a:Kg) (ks:List Str),vs=[↥a]/\RowsAt K H a ks/\Wf ks/\ks.length<=1000/\∀l H',aB H H'->H l=none->FoundN H' l ks ks.length->Q ↥l H'
def mL {n:Nat} (h:n<1000000):n<=sizeLine:=by
 have:(1000000:Nat)<sizeLine:=by decide
 lia
def sqT_lst {q:Kg}{xs l:List V} {o:HO} (h:aN K H a xs) (hq:H q=⇑(.lst l)):aN K (upd H q o) a xs:=by
 rcases h with(h|⟨o,h⟩)|h
 . exact .inl (.inl (by rw[aJ (fR h hq 0x6)]; exact h))
 . exact .inl (.inr #[o,by rw[aJ (fR h hq 0x6)]; exact h])
 . exact .inr h
abbrev fU (K:Kh) (H:Hp) (vs:List V) (ks:List Str):Prop:=∃rs:List Kg,vs=rs.map V.ref/\rs.length=ks.length/\∀i r,rs[i]?=⇑r->∃rest,aN K H r (V.str (kd ks i)::rest)
def fU.mono {vs:List V} (h:fU K H vs ks) (e:aB H H'):fU K H' vs ks :=
 by let#[rs,h1,h2,h3]:=h; show#[rs,h1,h2,λi r q=>by let#[rest,z]:=h3 i r q; show#[rest,e<*z]]
def fU.lst {H:Hp} {q:Kg} {l vs:List V} {o:HO} {ks:List Str} (h:fU K H vs ks) (hq:H q=⇑(.lst l)):fU K (upd H q o) vs ks :=
 by let#[rs,h1,h2,h3]:=h; show#[rs,h1,h2,λi r q=>by let#[rest,z]:=h3 i r q; show#[rest,sqT_lst z hq]]
def fU.at {vs:List V} (g:fU K H vs ks) (h:aN K H a vs):RowsAt K H a ks:=by let#[rs,rfl,h2,h3]:=g;show#[rs,h,h2,h3]
def RowsAt.rl (g:RowsAt K H a ks):∃vs,aN K H a vs/\fU K H vs ks :=
 by let#[rs,h1,h2,h3]:=g.ex; show#[_,h1,rs,rfl,h2,h3]
abbrev opsV (os:List Str):List V:=os.reverse.map V.str
def opsV_cons (o:Str) (os:List Str):opsV (o::os)=opsV os++[V.str o]:=by unfold opsV;rw[KH,Gy];rfl
def opsV_len (os:List Str):(opsV os).length=os.length:=by unfold opsV; rw[Go,K0]
def at_last (xs:List V) (v:V):bD (xs++[v]) (-1)=⇑v:=by
 unfold bD d9;rw[Gu #[],HI (by simp; lia),Jm];have:((-1:Int)+((xs++[v]).length:Int)).toNat=xs.length:=by
   rw[Gv];simp
   lia
 rw[this];simp
def ix_last (xs:List V) (v:V):d9 (xs++[v]).length (-1)=⇑xs.length:=by
 unfold d9;rw[Gu #[],HI (by simp; lia)];congr 1;rw[Gv];simp
 lia
def Good.olen (g:Good ks os):os.length<=ks.length:=by have h:=uH ks ks.length;unfold dq at h;rw[Go,K0,g.len] at h;exact h
abbrev strsD (os:List Str):List PyData:=os.map PyData.str
abbrev Nm (s:Str):Prop:=PyData.strOk s=true
def rQ:∀{ss:List Str},(∀s∈ss,Nm s)->PyData.canLayAll0 (strsD ss)=true
 | [],_=>by unfold strsD PyData.canLayAll0; rfl
 | s::ss,h=>by show PyData.canLayAll0 (PyData.str s::strsD ss)=true;unfold PyData.canLayAll0;rw[rQ λx hx=>h x (Gz _ hx)];unfold PyData.canLay0;rw[h s HH];rfl
def qZ:∀(ss:List Str),PyData.depthAll (strsD ss)=0
 | []=>by unfold strsD PyData.depthAll; rfl
 | s::ss=>by show PyData.depthAll (PyData.str s::strsD ss)=0;unfold PyData.depthAll;rw[qZ ss];unfold PyData.depth;rfl
def shaped_strs {ss:List Str} (h:∀s∈ss,Nm s):SeqAt.shaped (.list (strsD ss))=true:=by
 unfold SeqAt.shaped;have e1:PyData.canLay0 (.list (strsD ss))=true:=by unfold PyData.canLay0; exact rQ h
 have e2:PyData.depth (.list (strsD ss))=1:=by unfold PyData.depth; rw[qZ]
 rw[e1,e2];rfl
def dat_strs {K:Kh} {H:Hp}:∀(ss:List Str),cJ K H (strsD ss) (ss.map V.str)
 | []=>by unfold strsD cJ; rfl
 | s::ss=>by show cJ K H (PyData.str s::strsD ss) (V.str s::ss.map V.str);unfold cJ;show#[9,(by unfold bP; rfl),dat_strs ss]
def datV_ops {l:Kg} (h:H l=⇑(.lst (opsV os))):bP K H (.list (strsD os.reverse)) ↥l:=by unfold bP;show#[l,5,aG.of h,dat_strs os.reverse]
def eqv_ops (os:List Str):PyData.eqv (.list (strsD os.reverse)) (.list [])=decide (os=[]):=by
 cases h:os.reverse with
 | nil =>
   have:os=[]:=List.reverse_eq_nil_iff.mp h;rw[this,HJ rfl];exact GR
 | cons x r =>
   have:¬ os=[]:=λz=>by rw[z] at h; cases h
   rw[Hg this];unfold strsD PyData.eqv;rw[Hn];unfold PyData.eqvAll;rfl
def shaped_ops (h:∀s∈os,Nm s):SeqAt.shaped (.list (strsD os.reverse))=true:=shaped_strs λs hs=>h s (List.mem_reverse.mp hs)
def nm_else:Nm "else":=by unfold Nm; decide +kernel
def nfree {p q:Kg} {o:HO} (e:aB H H') (hp:H p=⇑o) (hq:H' q=none):p≠q:=λz=>by have:=e _ _ hp;rw[z,hq] at this;cases this
def RowsAt.lst {H:Hp} {a q:Kg} {l:List V} {o:HO} {ks:List Str} (h:RowsAt K H a ks) (hq:H q=⇑(.lst l)):RowsAt K (upd H q o) a ks :=
 by let#[_,h1,h2]:=h.rl; exact(h2.lst hq).at (sqT_lst h1 hq)
end
end K13
namespace Fl
open PySem L2 Gx
structure Rw where
 r:Addr
 k:Str
 c:Str
structure Fd where
 name:Str
 fa:Addr
 ra:Addr
 rs:List Rw
abbrev ir (K:Kh) (H:Hp) (w:Rw):Prop:=∃rest,aN K H w.r (V.str w.k::rest)/\(w.k="call"->∃x y,rest=[x,.str w.c,y])
variable {H:Hp}
def ir.mono {K:Kh} {H':Hp}{w:Rw} (e:aB H H') (h:ir K H w):ir K H' w:=by let#[rest,h1,h2]:=h; show#[rest,e<*h1,h2]
structure FnAt (K:W.Frag) (H:Hp) (f:Fd):Prop where
 fn:∃fo pa,aN K H f.fa [.str f.name,fo,↥pa,↥f.ra]
 rw_:aN K H f.ra (f.rs.map λw=>V.ref w.r)
 rk:∀w∈f.rs,ir K H w
 fu:∃ps ds,K12.FunAt K H f.fa ps ds
 wf:K13.Wf (f.rs.map (·.k))
 len:f.rs.length<=100
def FnAt.mono {K:Kh} {H H':Hp} {f:Fd} (e:aB H H') (h:FnAt K H f):FnAt K H' f :=
 #[by let#[a,b,z]:=h.fn; show#[a,b,e<*z],e<*h.rw_,λw hw=>(h.rk w hw)*>e,by let#[a,b,z]:=h.fu; show#[a,b,z*>e],h.wf,h.len]
def FnAt.rows {K:Kh} {f:Fd} (h:FnAt K H f):K13.RowsAt K H f.ra (f.rs.map (·.k)):=by
 show#[f.rs.map (·.r),by rw[IG]; exact h.rw_,by rw[Go,Go],λi r hr=>?_];rw[HV] at hr;cases e:f.rs[i]? with
 | none=>rw[e] at hr; cases hr
 | some w =>
   rw[e] at hr;cases hr;let#[rest,h1,_]:=h.rk w (He e);show#[rest,?_];have:K13.kd (f.rs.map (·.k)) i=w.k:=by unfold K13.kd;rw[IX,HV,e];rfl
   rw[this];exact h1
structure FS (C:Addr) (H:Hp) (x dx:Addr) (fs:List (Str×V)) (d:Nat->Addr) (kv:Nat->List (aE×V)):Prop where
 ob:H x=⇑(.ins C dx fs)
 dc:∀j,j<6->H (d j)=⇑(.dK (kv j))
def FS.mono {C:Kg} {H':Hp}{x dx:Kg} {fs:List (Str×V)} {d:Nat->Kg} {kv:Nat->List (aE×V)} (e:aB H H') (h:FS C H x dx fs d kv):FS C H' x dx fs d kv:=#[e _ _ h.ob,λj hj=>e _ _ (h.dc j hj)]
def FS.put {C:Kg} {x dx:Kg} {fs:List (Str×V)} {d:Nat->Kg} {kv:Nat->List (aE×V)} (h:FS C H x dx fs d kv) (inj:∀i j,i<6->j<6->d i=d j->i=j) (j:Nat) (hj:j<6) (k':List (aE×V)):FS C (upd H (d j) (.dK k')) x dx fs d (λi=>if i=j then k' else kv i):=by
 show#[?_,λi hi=>?_]
 . rw[aJ (fR h.ob (h.dc j hj) 0x6)]; exact h.ob
 . by_cases e:i=j
   . subst e;rw[aI,HI rfl]
   . rw[aJ (λz=>e (inj i j hi hj z)),Gu e];exact h.dc i hi
abbrev dM (v:V) (d:Nat->Kg):List (Str×V):=c8 "ways_in" ↥(d 5) (c8 "names_in" ↥(d 4) (c8 "rows_of" ↥(d 3) (c8 "params_of" ↥(d 2) (c8 "folded_of" ↥(d 1) (c8 "number_of" ↥(d 0) (c8 "last" v []))))))
def Fx (v:V) (d:Nat->Kg):(dM v d).lookup ("number_of":Str)=⇑↥(d 0):=by unfold dM;rw[cA,Gu 0x7,cA,Gu 0x7,cA,Gu 0x7,cA,Gu 0x7,cA,Gu 0x7,cA,HI rfl]
def FD (v:V) (d:Nat->Kg):(dM v d).lookup ("folded_of":Str)=⇑↥(d 1):=by unfold dM;rw[cA,Gu 0x7,cA,Gu 0x7,cA,Gu 0x7,cA,Gu 0x7,cA,HI rfl]
def tN (v:V) (d:Nat->Kg):(dM v d).lookup ("params_of":Str)=⇑↥(d 2):=by unfold dM;rw[cA,Gu 0x7,cA,Gu 0x7,cA,Gu 0x7,cA,HI rfl]
def qT (v:V) (d:Nat->Kg):(dM v d).lookup ("rows_of":Str)=⇑↥(d 3):=by unfold dM;rw[cA,Gu 0x7,cA,Gu 0x7,cA,HI rfl]
def uZ (v:V) (d:Nat->Kg):(dM v d).lookup ("names_in":Str)=⇑↥(d 4):=by unfold dM;rw[cA,Gu 0x7,cA,HI rfl]
def qD (v:V) (d:Nat->Kg):(dM v d).lookup ("ways_in":Str)=⇑↥(d 5):=by unfold dM;rw[cA,HI rfl]
def DL (v:V) (d:Nat->Kg):(dM v d).lookup ("last":Str)=⇑v:=by unfold dM;rw[cA,Gu 0x7,cA,Gu 0x7,cA,Gu 0x7,cA,Gu 0x7,cA,Gu 0x7,cA,Gu 0x7,cA,HI rfl]
abbrev dd (d0 d1 d2 d3 d4 d5:Kg):Nat->Kg
 | 0=>d0
 | 1=>d1
 | 2=>d2
 | 3=>d3
 | 4=>d4
 | _=>d5
def CI {d0 d1 d2 d3 d4 d5:Kg} (h:[d0,d1,d2,d3,d4,d5].Nodup) (i j:Nat) (hi:i<6) (hj:j<6) (e:dd d0 d1 d2 d3 d4 d5 i=dd d0 d1 d2 d3 d4 d5 j):i=j:=by
 have g:∀k,k<6->[d0,d1,d2,d3,d4,d5][k]?=⇑(dd d0 d1 d2 d3 d4 d5 k):=λk hk=>by rcases k with _|_|_|_|_|_|k <;> first|rfl|lia
 exact(JB hi h).mp ((g i hi)\((HY some e)\(g j hj).symm))
def bW {a b:Kg} {o:HO} (h:upd H a o b=none):b≠a/\H b=none:=by
 have hn:b≠a:=λz=>by rw[z,aI] at h; cases h
 rw[aJ hn] at h;show#[hn,h]
def bG {a b:Kg} {o o':HO} (h:H b=⇑o) (hn:b≠a):upd H a o' b=⇑o:=by rw[aJ hn]; exact h
def ib (f:Str) (v:V) (l:List (Str×V)) (k:Nat) (h:l.length<=k):(c8 f v l).length<=k+1:=Hf (iw f v l) ∅
def jo {α:Type} {l:List α} {f:α->V} {r:Int} {a:α} (h0:0<=r) (h:l[r.toNat]?=⇑a):bD (l.map f) r=⇑(f a):=by let#[j,rfl]:=J7 h0;refine dO ?_;rw[Hm] at h;rw[HV,h];rfl
end Fl
namespace L2
open PySem
abbrev hl (H:Hp):Hp:=λb=>match H b with
 | some (.lst xs)=>⇑(.lst xs)
 | some (.tup xs)=>⇑(.tup xs)
 | _=>none
variable {H:Hp}
def jn :aB (hl H) H:=λb o h=>by
 unfold hl at h;split at h
 . rename_i e; rw[e]; exact h
 . rename_i e; rw[e]; exact h
 . cases h
def sm {b:Kg} {xs:List V} (h:H b=⇑(.lst xs)):hl H b=⇑(.lst xs):=by unfold hl; rw[h]
def Du {b:Kg} {xs:List V} (h:H b=⇑(.tup xs)):hl H b=⇑(.tup xs):=by unfold hl; rw[h]
def aB.hl {H H':Hp} (e:aB H H'):aB (hl H) (hl H'):=λb o h=>by have h1:=jn _ _ h;have h2:=e _ _ h1;unfold L2.hl at h ⊢;rw[h1] at h;rw[h2];exact h
def Eb {a:Kg} {o:HO} (h:∀xs,H a≠⇑(.lst xs)/\H a≠⇑(.tup xs)) (ho:∀xs,o≠.lst xs/\o≠.tup xs):hl (upd H a o)=hl H:=by
 funext b;unfold hl upd;by_cases hb:b=a
 . subst hb;rw[HI rfl];cases o with
   | lst xs=>exact absurd rfl (ho xs).1
   | tup xs=>exact absurd rfl (ho xs).2
   | _ =>
     cases e:H b with
     | none=>rfl
     | some u=>cases u with
       | lst xs=>exact absurd e (h xs).1
       | tup xs=>exact absurd e (h xs).2
       | _=>rfl
 . rw[Gu hb]
def ip {a:Kg} {kvs kvs':List (aE×V)} (h:H a=⇑(.dK kvs)):hl (upd H a (.dK kvs'))=hl H :=
 Eb (λxs=>#[(by rw[h]; intro z; cases z),(by rw[h]; intro z; cases z)]) λxs=>#[0x6,0x6]
end L2
namespace K13
open PySem L2
def FoundN.hl {H:Hp} {l:Kg} {ks:List Str} {i:Nat} (h:FoundN H l ks i):FoundN (L2.hl H) l ks i:=by
 let#[vs,h1,h2,h3]:=h;show#[vs,sm h1,h2,λk v q=>?_];let#[o,d,z]:=h3 k v q;show#[o,d,?_];cases o with
 | none=>exact z
 | some l=>let#[p,z1,z2]:=z; show#[p,z1,Du z2]
end K13
namespace F2
open PySem L2 Gx Fl
structure Fd where
 name:Str
 fo:V
 fa:Addr
 pa:Addr
 ra:Addr
 ps:List Str
 rs:List Rw
 ds:List K12.RowD
structure FnAt (K:W.Frag) (H:Hp) (f:Fd):Prop where
 fn:aN K H f.fa [.str f.name,f.fo,↥f.pa,↥f.ra]
 pr:aN K H f.pa (f.ps.map V.str)
 rw_:aN K H f.ra (f.rs.map λw=>V.ref w.r)
 rk:∀w∈f.rs,ir K H w
 fu:K12.FunAt K H f.fa f.ps f.ds
 wf:K13.Wf (f.rs.map (·.k))
 len:f.rs.length<=100
def FnAt.mono {K:Kh} {H H':Hp} {f:Fd} (e:aB H H') (h:FnAt K H f):FnAt K H' f :=
 #[e<*h.fn,e<*h.pr,e<*h.rw_,λw hw=>(h.rk w hw)*>e,h.fu*>e,h.wf,h.len]
abbrev toF (f:Fd):Fl.Fd:=#[f.name,f.fa,f.ra,f.rs]
def FnAt.old {K:Kh} {H:Hp} {f:Fd} (h:FnAt K H f):Fl.FnAt K H (toF f):=#[#[4,h.fn],h.rw_,h.rk,#[4,h.fu],h.wf,h.len]
abbrev nms (f:Fd):List Str:=K12.onceL (K12.allOf f.ps f.ds)
abbrev kds (f:Fd):List Str:=f.rs.map (·.k)
abbrev kD (g:Nat->Fd->V) (fns:List Fd):List (aE×V):=fns.mapIdx λi f=>(Sum.inr f.name,g i f)
def CK (g:Nat->Fd->V) (fns:List Fd) (f:Fd):kD g (fns++[f])=kD g fns++[(Sum.inr f.name,g fns.length f)]:=by unfold kD;rw[List.mapIdx_append];simp
variable {fns:List Fd}
def Ag {g g':Nat->Fd->V} (h:∀i f,i<fns.length->g i f=g' i f):kD g fns=kD g' fns:=by unfold kD;refine List.ext_getElem 0xA λi h1 h2=>?_;simp only[List.getElem_mapIdx];rw[h i _ ↑h1]
def Ew (g:Nat->Fd->V) {s:Str} (h:s ∉ fns.map (·.name)):aZ (kD g fns) (Sum.inr s:aE)=none:=by
 unfold aZ;rw[Option.map_eq_none_iff,List.find?_eq_none];intro kv hkv z;unfold kD at hkv;let#[i,hi,e]:=List.mem_mapIdx.mp hkv;subst e;have z:(Sum.inr fns[i].name:aE)=Sum.inr s:=↑z
 exact h (HX.mpr #[fns[i],J5 hi,Sum.inr.inj z])
def qr {f:Fd} {i:Nat} (h:fns[i]?=⇑f) (nd:(fns.map (·.name)).Nodup):f.name ∉ (fns.take i).map (·.name):=by
 intro z;let#[g,hg,e]:=HX.mp z;let#[j,hj]:=Hy hg;have hji:j<i:=by
   have:=(Gq.mp hj).1;rw[Hl] at this
   lia
 rw[JL hji] at hj;have h1:(fns.map (·.name))[i]?=⇑f.name:=by rw[HV,h]; rfl
 have h2:(fns.map (·.name))[j]?=⇑f.name:=by rw[HV,hj]; exact HY some e
 have:=(JB (Gq.mp h2).1 nd).mp (h2\h1.symm)
 lia
def iA {g g':Nat->Fd->V} {f:Fd} {i:Nat} {v:V} (h:fns[i]?=⇑f) (nd:(fns.map (·.name)).Nodup) (hg:∀j f,j<i->g j f=g' j f) (hv:v=g' i f):aQ (kD g (fns.take i)) (Sum.inr f.name:aE) v=kD g' (fns.take (i+1)):=by
 have hi:i<fns.length:=(Gq.mp h).1;have hl:(fns.take i).length=i:=by rw[Hl]; lia
 rw[sL _ (Ew g (qr h nd)),Hz,h];show _=kD g' (fns.take i++[f]);rw[CK,hl,<- hv,Ag (g:=g) (g':=g') λj f hj=>hg j f ∅]
def kD_at (g:Nat->Fd->V):∀{fns:List Fd} {i:Nat} {f:Fd},(fns.map (·.name)).Nodup->fns[i]?=⇑f->aZ (kD g fns) (Sum.inr f.name:aE)=⇑(g i f):=by
 intro fns i f nd h;have hi:i<fns.length:=(Gq.mp h).1;have key:∀k,i<k->k<=fns.length->aZ (kD g (fns.take k)) (Sum.inr f.name:aE)=⇑(g i f):=by
   intro k
   induction k with
   | zero=>intro h0; exact absurd h0 (Iz _)
   | succ k ih =>
     intro hk hk';obtain⟨f',hf'⟩:∃f',fns[k]?=⇑f':=#[fns[k],HN ∅]
     rw[<- iA (g:=g) (g':=g) hf' nd (λ_ _ _=>rfl) rfl,dj];by_cases e:i=k
     . subst e;rw[h] at hf';cases hf';rw[HI rfl]
     . have hn:¬ (Sum.inr f.name:aE)=Sum.inr f'.name:=λz=>qr hf' nd (HX.mpr #[f,He (by rw[JL (show i<k by lia)]; exact h),Sum.inr.inj z]);rw[Gu hn];exact ih ∅ ∅
 have:=key fns.length hi (Gw _);rw[IP] at this;exact this
structure FlowsAt (K:W.Frag) (C:Addr) (H:Hp) (x:Addr) (fns:List Fd):Prop where
 all:∀f∈fns,FnAt K H f
 nd:(fns.map (·.name)).Nodup
 ob:∃dx fz d kv,∃nl wl:Nat->Addr,fns[fns.length - 1]?=⇑fz/\FS C H x dx (dM (V.str fz.name) d) d kv/\kv 0=kD (λi _=>.int i) fns/\kv 1=kD (λ_ f=>f.fo) fns/\kv 2=kD (λ_ f=>↥f.pa) fns/\kv 3=kD (λ_ f=>↥f.ra) fns /\
   kv 4=kD (λi _=>↥(nl i)) fns/\kv 5=kD (λi _=>↥(wl i)) fns/\∀i f,fns[i]?=⇑f->H (nl i)=⇑(.lst ((nms f).map V.str))/\K13.FoundN H (wl i) (kds f) (kds f).length
def FlowsAt.mono {K:Kh} {C:Kg} {H H':Hp} {x:Kg} {fns:List Fd} (e:aB H H') (h:FlowsAt K C H x fns):FlowsAt K C H' x fns:=by let#[dx,fz,d,kv,nl,wl,h0,h1,h2,h3,h4,h5,h6,h7,h8]:=h.ob;show#[λf hf=>(h.all f hf)*>e,h.nd,#[dx,fz,d,kv,nl,wl,h0,h1*>e,h2,h3,h4,h5,h6,h7,λi f hi=>#[e _ _ (h8 i f hi).1,(h8 i f hi).2.mono e]]]
end F2
namespace K21
open PySem L2
noncomputable abbrev wide:Int:=281474976710656
abbrev bw (s:Str) (a b:Int):Int:=if s="&" then Builtin.bitAnd a b else if s="|" then Builtin.bitOr a b else Builtin.bitXor a b
abbrev jH (s:Str) (x y:Int):Int:=if s="&" then x * y else if s="|" then x+y - x * y else(x+y)%2
def mI (x:Int):x%2=0\/x%2=1:=by lia
def yW (s:Str) (a b:Int):0<=jH s (a%2) (b%2)/\jH s (a%2) (b%2)<=1:=by unfold jH;rcases mI a with h|h <;> rcases mI b with h' | h' <;> rw[h,h'] <;> (split; decide; split <;> decide)
def yY {x y:Int} (hx:0<=x) (hy:0<=y):Builtin.bitAnd x y=2 * Builtin.bitAnd (x / 2) (y / 2)+(x%2) * (y%2):=by
 let#[n,rfl]:=J7 hx;let#[m,rfl]:=J7 hy;rw[PyProof.Rows.bitAnd_pp hx hy,PyProof.Rows.bitAnd_pp ∅ ∅];have e1:(Int.ofNat n).toNat=n:=rfl;have e2:(Int.ofNat m).toNat=m:=rfl;have e3:((n:Int) / 2).toNat=n / 2:=by lia
 have e4:((m:Int) / 2).toNat=m / 2:=by lia
 have a1:((n &&& m) / 2)=(n / 2) &&& (m / 2):=Nat.and_div_two;have a2:(n &&& m)%2=(n%2) * (m%2):=by have h1:=Nat.and_mod_two_eq_one (a:=n) (b:=m);rcases KE n with h|h <;> rcases KE m with h' | h' <;> rw[h,h'] at h1 ⊢ <;> lia
 have a3:=Nat.div_add_mod (n &&& m) 2;show((n &&& m:Nat):Int)=_;rw[e3,e4,<- a1];have a4:((n:Int)%2) * ((m:Int)%2)=(((n%2) * (m%2):Nat):Int):=by rw[Int.natCast_mul];rfl
 show _=2 * (((n &&& m) / 2:Nat):Int)+((n:Int)%2) * ((m:Int)%2);rw[a4,<- a2]
 lia
def DM (s:Str) {a b:Int} (ha:0<=a) (hb:0<=b):bw s a b=2 * bw s (a / 2) (b / 2)+jH s (a%2) (b%2):=by
 have h:=yY ha hb;unfold bw jH;split
 . exact h
 . split
   . rw[Je,Je,h]
     lia
   . have e:∀x y:Int,Builtin.bitXor x y=x+y - 2 * Builtin.bitAnd x y:=λx y=>by
       unfold Builtin.bitXor;rw[Je]
       lia
     rw[e,e,h];rcases mI a with p|p <;> rcases mI b with p' | p' <;> rw[p,p'] <;> lia
def yg (s:Str):bw s 0 0=0:=by
 unfold bw;split
 . rfl
 . split <;> rfl
def sH (s:Str):∀(n:Nat) {a b:Int},0<=a->0<=b->a<2 ^ n->b<2 ^ n->0<=bw s a b/\bw s a b<2 ^ n
 | 0,a,b,h1,h2,h3,h4=>by
   have e1:a=0:=by simp at h3; lia
   have e2:b=0:=by simp at h4; lia
   subst e1 e2;rw[yg];decide
 | n+1,a,b,h1,h2,h3,h4=>by
   rw[Int.pow_succ] at h3 h4 ⊢;have ih:=sH s n (a:=a / 2) (b:=b / 2) ∅ ∅ ∅ ∅;have st:=DM s h1 h2;have bb:=yW s a b
   lia
abbrev valOf (s:Str) (a b:Int):Int :=
 if s="+" then(a+b)%wide else if s="-" then(a - b)%wide else if s="*" then(a * b)%wide else if s="/" then(if b=0 then 0 else a / b)
 else if s="<" then(if a<b then 1 else 0) else if s="=" then(if a=b then 1 else 0) else bw s a b
def val_bound (s:Str) {a b:Int} (ha:0<=a) (hb:0<=b) (ha':a<wide) (hb':b<wide):0<=valOf s a b/\valOf s a b<wide:=by
 have m:∀z:Int,0<=z%wide/\z%wide<wide:=λz=>#[Int.emod_nonneg _ #[],Int.emod_lt_of_pos _ #[]]
 unfold valOf;split
 . exact m _
 split
 . exact m _
 split
 . exact m _
 split
 . split
   . decide
   . have h1:0<=a / b:=Int.ediv_nonneg ha hb;have h2:a / b<=a:=Int.ediv_le_self b ha
     lia
 split
 . split <;> decide
 split
 . split <;> decide
 exact sH s 48 ha hb ha' hb'
end K21
namespace L2
open PySem PySem.Spec PyProof.Rows
abbrev sB:Stmt->List Stmt
 | .For _ _ b _ _=>b
 | .While _ b _ _=>b
 | .If _ b _ _=>b
 | _=>[]
inductive WVar (i:Nat) (σ:St) (H:Hp) (Q:VK):Prop
 | mk (v:V) (h:σ[i]?=⇑⇑v) (q:Q v H):WVar i σ H Q
abbrev F7 (i:Nat):TE:=λσ H Q=>WVar i σ H Q
variable {X:Cx}
def aC (i:Nat) {x:Str} {pos:Pos} (hN:X.N[i]?=⇑x:=by rfl) (hv:mD X.env.scope x:=by first|exact Or.inl rfl|exact Or.inr 0x3|exact Or.inr (Or.inr rfl)) (hd:(x==("__debug__":Str))=false:=by decide)
   (hcd:(x==("__classdict__":Str))=false:=by decide):PE X (.Name x pos) (F7 i):=λpins s σ H Q I h=>pv i hN hv hd hcd pins s σ H Q I (by let#[v,e,q]:=h; show#[v,e,q])
inductive WIxL (K:W.Frag) (x y:V) (H:Hp) (Q:VK):Prop
 | mk (p:Addr) (xs:List V) (i:Int) (v:V) (h1:x=↥p) (h2:y=.int i) (h3:aG K H p xs) (h4:bD xs i=⇑v) (q:Q v H):WIxL K x y H Q
inductive WIxT (K:W.Frag) (x y:V) (H:Hp) (Q:VK):Prop
 | mk (p:Addr) (xs:List V) (i:Int) (v:V) (h1:x=↥p) (h2:y=.int i) (h3:aN K H p xs) (h4:bD xs i=⇑v) (q:Q v H):WIxT K x y H Q
abbrev bB (K:Kh):R2:=λx y H Q=>WIxL K x y H Q
abbrev aw (K:Kh):R2:=λx y H Q=>WIxT K x y H Q
def aR.imp {r r':R2} (h:aR X r) (f:∀x y H Q,r' x y H Q->r x y H Q):aR X r':=λa b pins s σ H x y v u Q I r1 r2 q z=>h a b pins s σ H x y v u Q I r1 r2 (f x y H Q q) z
def bU.imp {g:Ke->Ke->Sem Ke} {r r':R2} (h:bU X g r) (f:∀x y H Q,r' x y H Q->r x y H Q):bU X g r':=λpins s σ H x y v u Q I r1 r2 q=>h pins s σ H x y v u Q I r1 r2 (f x y H Q q)
def bh.imp {g:Ke} {r r':List V->Hp->VK->Prop} (h:bh X g r) (f:∀xs H Q,r' xs H Q->r xs H Q):bh X g r':=λpins s σ H xs us Q I r1 q=>h pins s σ H xs us Q I r1 (f xs H Q q)
def bC :aR X (bB X.K):=dg.imp λx y H Q h=>by let#[p,xs,i,v,h1,h2,h3,h4,q]:=h; show#[p,xs,i,v,h1,h2,h3,h4,q]
def ax :aR X (aw X.K):=ak.imp λx y H Q h=>by let#[p,xs,i,v,h1,h2,h3,h4,q]:=h; show#[p,xs,i,v,h1,h2,h3,h4,q]
inductive WI (C:Int->Int->Prop) (g:Int->Int->V) (x y:V) (H:Hp) (Q:VK):Prop
 | mk (i j:Int) (h1:x=.int i) (h2:y=.int j) (h3:C i j) (q:Q (g i j) H):WI C g x y H Q
inductive WI0 (g:Int->Int->V) (x y:V) (H:Hp) (Q:VK):Prop
 | mk (i j:Int) (h1:x=.int i) (h2:y=.int j) (q:Q (g i j) H):WI0 g x y H Q
abbrev cI (C:Int->Int->Prop) (g:Int->Int->V):R2:=λx y H Q=>WI C g x y H Q
abbrev cI0 (g:Int->Int->V):R2:=λx y H Q=>WI0 g x y H Q
def bq {f:Ke->Ke->Sem Ke} {C:Int->Int->Prop} {g:Int->Int->V} (h:bU X f (rI C g)):bU X f (cI C g):=h.imp λx y H Q h=>by let#[i,j,h1,h2,h3,q]:=h; show#[i,j,h1,h2,h3,q]
def c9 {f:Ke->Ke->Sem Ke} {g:Int->Int->V} (h:bU X f (ej g)):bU X f (cI0 g):=h.imp λx y H Q h=>by let#[i,j,h1,h2,q]:=h; show#[i,j,h1,h2,q]
inductive WLen (K:W.Frag) (xs:List V) (H:Hp) (Q:VK):Prop
 | mk (p:Addr) (ys:List V) (h1:xs=[↥p]) (h2:aG K H p ys\/aN K H p ys) (q:Q (.int ys.length) H):WLen K xs H Q
abbrev cm (K:Kh):List V->Hp->VK->Prop:=λxs H Q=>WLen K xs H Q
def cw :bh X (.builtin "len") (cm X.K):=gU.imp λxs H Q h=>by let#[p,ys,h1,h2,q]:=h; show#[p,ys,h1,h2,q]
inductive WApp (x:V) (vs:List V) (H:Hp) (Q:VK):Prop
 | mk (l:Addr) (xs:List V) (y:V) (h1:x=↥l) (h2:vs=[y]) (h3:H l=⇑(.lst xs)) (h4:xs.length<sizeLine) (q:Q .non (upd H l (.lst (xs++[y])))):WApp x vs H Q
abbrev EH:V->List V->Hp->VK->Prop:=λx vs H Q=>WApp x vs H Q
def cu :jt X "list.append" EH:=λpins s σ H x xs v us Q I r1 r2 q=>eX pins s σ H x xs v us Q I r1 r2 (by let#[l,xs,y,h1,h2,h3,h4,q]:=q; show#[l,xs,y,h1,h2,h3,h4,q])
inductive WBl (x:V) (H:Hp) (Q:Bool->Hp->Prop):Prop
 | mk (k:Bool) (h:x=.bl k) (q:Q k H):WBl x H Q
abbrev qw (t:TE):TT:=λσ H Q=>t σ H λx H'=>WBl x H' Q
section
variable {X:Cx} {a b:Expr} {ta tb:TE} {pos:Pos}
def bX {op:CmpOp} {r:R2} (ho:bU X (compareOp op) r) (ha:PE X a ta) (hb:PE X b tb) (hm:behindInMarks op b=false):PT X (.Compare a [op] [b] pos) (qw (jO r ta tb)):=by
 intro pins s σ H Q I h;refine Jn (aW (ha pins s σ H _ I h) λv s1 ⟨x,H1,I1,r1,q1⟩=>aW (hb pins s1 σ H1 _ I1 q1) λu s2 ⟨y,H2,I2,r2,q2⟩ =>
   aW (ho pins s2 σ H2 x y v u _ I2 r1 r2 q2) λc s3 z153_=>z153_.e λz H3 I3 r3 w=>?_) hm
 let#[k,e,q3]:=w;subst e;cases r3;exact Ic #[H3,I3,q3]
def hU {e:Expr} {t:TE} (h:PE X e t) (he:∀whole,isTrue e X.env whole=(do let v <- whole; standAt e.pos; holding [v] (truthy v)):=by intro _; rfl):PT X e (qw t):=by intro pins s σ H Q I hw;refine isTrue_plain (aW (h pins s σ H _ I hw) λv s1 z154_=>?_) (he _);let#[x,H1,I1,r1,q1]:=z154_;let#[d,rfl,q]:=q1;cases r1;exact Ic #[H1,I1,q]
end
abbrev Fo (t u:TS):TS:=λD σ H=>∃M:St->Hp->Prop,t { D with nx:=M } σ H/\∀σ' H',M σ' H'->u D σ' H'
def ii {st:Stmt} {rest:List Stmt} {t u:TS} (h1:PS X st t) (h2:aV X rest u):aV X (st::rest) (Fo t u):=rE h1 h2
end L2
namespace Ex
open PySem PySem.W PyProof.Rows PySem.Spec
section
variable {prog:Program} {w:World} {A:Around} {E:Ke->Kf->Prop} {R:Result->Kf->Prop} {h:Heap} {g:Array GenState} {d:Drawn} {t:Nat} {os:OsState}
 {nm q:Str} {C N:Kg} {bs bm:List Ke} {hdct:Bool} {sn:List Str} {sub:List Ke} {ab:Bool} {col:Kd Bool} {dd:Kd Kg} {k0 k1 k2 k3 k5:Kd Ke}
end
end Ex
namespace L2
open PySem PySem.Spec PyProof.Rows
section
variable {P:Program} {w:World} {K:Kh} {mg:Str->Kd Ke} {base:Heap} {N:List Str} {qual:Str} {sc:Scope} {f:Kg} {cd:Ke} {A:Around} {outer:List Env} {s0 s:Kf} {H0 H:Hp} {E:XK}
 {pins:List (Kg×Obj)} {σ:St} {cls:Ke} {d:Kd Kg} {e:Kg}
end
end L2
namespace Ex
open PySem PySem.W PyProof.Rows PySem.Spec
section
variable {prog:Program} {w:World} {A:Around} {E:Ke->Kf->Prop} {R:Result->Kf->Prop} {h:Heap} {g:Array GenState} {d:Drawn} {t:Nat} {os:OsState}
 {nm q:Str} {C N:Kg} {bs bm:List Ke} {hdct:Bool} {sn:List Str} {sub:List Ke} {ab:Bool} {col:Kd Bool} {dd:Kd Kg} {k0 k1 k2 k3 k5:Kd Ke}
end
end Ex
namespace L2
open PySem PySem.Spec PyProof.Rows
def GA {X:Cx}:bU X (compareOp .IsNot) (λx y H Q=>∃a b,x=.bl a/\y=.bl b/\Q (.bl (!decide (a=b))) H):=by intro pins s σ H x y v u Q I rx ry h;let#[a,b,rfl,rfl,q]:=h;cases rx;cases ry;exact wpAny_isNot_plain rfl (bv I q (by cases a <;> cases b <;> rfl))
end L2
namespace Sk
open PySem PySem.Spec PyProof.Rows
mutual
noncomputable def fO (w:World):PyData->Int
 | .int i=>hashInt i
 | .str x=>hashStr w x
 | .bool b=>hashInt (if b then 1 else 0)
 | .tuple ds=>reduceHash (Builtin.Tuple.tupleHashOf (ut w ds))
 | _=>0
noncomputable def ut (w:World):List PyData->List Int
 | []=>[]
 | d::ds=>fO w d::ut w ds
end
mutual
noncomputable def drw:PyData->Nat
 | .tuple ds=>tQ ds+1
 | _=>1
noncomputable def tQ:List PyData->Nat
 | []=>0
 | d::ds=>drw d+tQ ds
end
end Sk
namespace L2
open PySem PySem.Spec PyProof.Rows
structure BaseOk (K:W.Frag) (C:Addr) (m:Str) (f:Addr):Prop where
 ga:PySem.W.specialIn K ↥C "__getattribute__"=⇑⇑(.builtin "type.__getattribute__")
 rd:PySem.W.readsIn K C (.type "type")=true
 e:PySem.W.findCls K ↥C (.type "type") m=⇑(.val ↥f)
 kp:PySem.W.keepIn K ↥f=true
section
variable {X:Cx} {CX:eN} {k:Nat} {f C:Kg} {fd:FuncData} {ps:List Str} {sp:Sp} {dvs:List V} {ds:List Ke} {E:XK} {x m:Str} {p pos apos:Pos} {e o:Expr} {es:List Expr} {ta:TE} {t:TA}
def zW {pl:Sem Bool} (he:PE X o (tC ↥C)) (B:BaseOk X.K C m f) (F:FnOk X.prog X.w X.K X.mg X.base CX k f fd ps sp) (hr:Room k X.A) (hb:dk X.K fd ps ds) (hd:ae dvs ds) (hx:gG CX X E) (ha:PA X (e::es) t)
   (hst:starEach (e::es) X.env=(false,eval e X.env)::starEach es X.env:=by rfl) (hpl:(backTo pos (starEach es X.env)).any (·.1)=false:=by rfl)
   (ht:eval (.Call (.Attribute o m apos) (e::es) [] pos) X.env=(do
     let ov <- eval o X.env
     standAt apos.atName
     let (f,first) <- holding [ov] (getMethod ov m pl)
     callWith pos f first (backTo pos (starEach (e::es) X.env)) (backToKw pos (keywordEach [] X.env))):=by rfl) :
   PE X (.Call (.Attribute o m apos) (e::es) [] pos) (oC sp dvs E t):=by
 intro pins s σ H Q I h;refine PySem.W.methodCall_KW (pl:=pl) (aW (he pins s σ H (λx H1=>x=↥C/\t σ H1 λvs H2=>sp (vs++dvs) H2 Q E) I #[rfl,h]) λu s1 z197_=>?_) ht;let#[x,H1,I1,rx,ex,q]:=z197_;subst ex;obtain rfl:u=Value.ref C:=rx;refine PySem.W.method_cls I1.kIn B.ga (PySem.W.cls_value I1.kIn B.rd B.e rfl ?_);have I2:=I1.tok (s1.toks+1);refine PySem.W.callWith_K (first:=[]) (h₀:=X.base) I.ok.mod.kin B.kp (aW (ha pos pins _ σ H1 _ I2 q) λus s2 z198_=>z198_.e λvs H2 I3 r q2=>#[I3.kIn,?_]) hst hpl;exact mB (us:=us) (vs:=vs) F hr hb hd hx I3 r q2
end
structure BasOk (K:W.Frag) (C:Addr) (m qual:Str) (st:Stmt) (ps:List Str) (f:Addr) (fd:FuncData):Prop where
 F:Fun K m qual st f fd
 b:dk K fd ps []
 B:BaseOk K C m f
def Co {K:Kh} {C:Kg} {m qual:Str} {st:Stmt} {ps:List Str} {f:Kg} {oc:Ke} {od an:Kd Kg} {osl:Array (Kd Ke)} {kV doc pm cdv ct:Ke}
   (ga:PySem.W.specialIn K ↥C "__getattribute__"=⇑⇑(.builtin "type.__getattribute__")) (rd:PySem.W.readsIn K C (.type "type")=true) (e:PySem.W.findCls K ↥C (.type "type") m=⇑(.val ↥f)) (l:K.lookup f=⇑#[oc,od,.func (PySem.W.fnOf m qual (dH st) (aU st) (ac st) .none kV doc pm an cdv ct),osl]) (c:PySem.W.codeIn K cdv qual=true) (k:PySem.W.keepIn K ↥f=true)
   (b:∀(kV doc pm:Ke) (an:Kd Kg) (cdv ct:Ke) (us:List Ke),us.length=ps.length->bindArgs (PySem.W.fnOf m qual (dH st) (aU st) (ac st) .none kV doc pm an cdv ct) #[us,[]]=pure (ps.zip us)) :
   BasOk K C m qual st ps f (PySem.W.fnOf m qual (dH st) (aU st) (ac st) .none kV doc pm an cdv ct) :=
 #[fq l c k,(fq l c k).binds b,#[ga,rd,e,k]]
def Inv.thaw {X:Cx} {pins:List (Kg×Obj)} {σ:St} {H:Hp} {s:Kf} {d:Kg} {o:Obj} {kvs:List (aE×V)} (I:Inv X pins σ H s) (e:H d=⇑(.frz o (.dK kvs))) (h0:∀o u,X.H₀ d≠⇑(.frz o u)):Inv X pins σ (upd H d (.dK kvs)) s:=by
 have nd:∀b u,H b=⇑u->u≠.frz o (.dK kvs)->b≠d:=λb u q n z=>by subst z;rw[e] at q;cases q;exact n rfl
 have none_of:∀{b:Kg},H b=none->upd H d (.dK kvs) b=none:=λ{b} hb=>by rw[aJ (λz=>by subst z; rw[e] at hb; cases hb)];exact hb
 show#[I.ok,I.os,I.bare,#[I.base.keep,I.base.slot,λb q h1 h2 h3=>none_of (I.base.free b q h1 h2 h3),I.base.there,λb xs q=>?_,λb q u h=>?_,λb ps q=>?_],I.loc,I.cell,none_of I.free,λx c h=>none_of (I.freeC x c h),λp hp=>?_,λb u q=>?_,I.len]
 . have:=I.base.tups b xs q;rw[aJ (nd b _ this 0x6)];exact this
 . have:=I.base.frzs b q u h;rw[aJ (λz=>by subst z; exact h0 _ _ h)];exact this
 . let#[more,this]:=I.base.tbls b ps q;show#[more,?_];rw[aJ (nd b _ this 0x6)];exact this
 . let#[p1,p2,p3]:=I.pin p hp;show#[p1,none_of p2,p3]
 . have own:∀c b,H c=⇑(.own b)->(upd H d (.dK kvs)) c=⇑(.own b):=λc b q=>(aJ (nd c _ q 0x6))\q;have tup:∀c xs,H c=⇑(.tup xs)->(upd H d (.dK kvs)) c=⇑(.tup xs):=λc xs q=>(aJ (nd c _ q 0x6))\q;by_cases hb:b=d
   . subst hb;rw[aI] at q;cases q;exact(I.hok _ _ e).2.stay (λ_ _ _ q=>q) (λc q=>own c _ q) tup
   . rw[aJ hb] at q;exact(I.hok b u q).stay (λ_ _ _ q=>q) (λc q=>own c _ q) tup
def DO {X:Cx} {st:Stmt} {t:TS} (h:PS X st t):PS X st (λD σ H=>∃d kvs,H d=⇑(.dK kvs)/\t { D with nx:=λσ' H'=>∃o,H' d=⇑(.frz o (.dK kvs))/\D.nx σ' (upd H' d (.dK kvs)) } σ H):=by
 intro pins s σ H D I hh;let#[d,kvs,hd,hh]:=hh;have h0:∀o u,X.H₀ d≠⇑(.frz o u):=λo u z=>by have:=I.base.frzs d o u z;rw[hd] at this;cases this
 refine aW (h pins s σ H _ I hh) λf s1 q=>?_;cases f with
 | next =>
   let#[σ',H',I',o,e,q]:=q;show#[σ',_,I'.thaw e h0,q]
 | brk=>exact q
 | cont=>exact q
 | ret u=>exact q
abbrev jE (o:Obj) (d:Kg) (kvs:List (aE×V)):It :=
 #[λi H=>H d=⇑(.frz o (.dK kvs))/\i<kvs.length,λi H y H'=>H'=H/\∀kv,kvs[i]?=⇑kv->y=kV kv.1,λi H=>H d=⇑(.frz o (.dK kvs))/\i=kvs.length]
def yc {P:Program} {w:World} {K:Kh} {tg:Expr} (o:Obj) (d it:Kg) (kvs:List (aE×V)) (es0:Array DictEntry) (ep:Nat) (hep:o.data=.dict es0 ep) :
   Turn P w K tg (jE o d kvs) [it] it (λi h=>h.IsKeyIter it d i kvs.length ep) where
 mem:=by simp
 obj:=λi h st b hb=>by
   have e:b=it:=↑hb
   subst e;let#[o,e,c,d]:=st;show#[o,e,λv z=>by rw[d] at z; cases z]
 keep:=λi h h' st k=>st.at λo e=>k it 0xA o e
 item:=by
   intro X hP hw hK hc i pins s σ H E I hf st hg;subst hP hw hK;let#[hfz,hi]:=hg;let#[vs,rel,hD]:=il I hfz hep;have hlen:kvs.length=vs.length:=KV.length rel;have hi':i<vs.length:=by lia
   have rk:kvs[i].1=vs[i].1/\ag kvs[i].2 vs[i].2:=kg rel hi hi';refine wpAny_pyNext_dict_item (knd:=c7 X.prog X.w) (k:=vs[i].1) (v:=vs[i].2) (kvs:=vs) (by rw[<- hlen]; exact st) hD (by simp [hi']) λkey h' hkey st' sb=>?_;have I1:Inv X pins σ H { s with heap:=h' }:=I.turnedL (t':=s.toks) (ch:=[it]) (λb o hb e=>(sb.2 b (λz=>hb (by simp [z])))\e) hf;have kk:∀kv,kvs[i]?=⇑kv->kV kvs[i].1=kV kv.1:=λkv hkv=>by
     have:kvs[i]=kv:=by simpa [hi] using hkv
     rw[this]
   show#[5,letGo_keyiter (s':={ s with heap:=h' }) st' ⟨kV kvs[i].1,H,I1,by rw[rk.1]; exact nN hkey,⟨rfl,kk⟩,by rw[hlen]; exact st',λb hb=>(hf b hb).1⟩]
 done:=by intro X hP hw hK hc i pins s σ H E I hf st hg;subst hP hw hK;let#[hfz,hi]:=hg;let#[vs,rel,hD]:=il I hfz hep;have hlen:kvs.length=vs.length:=KV.length rel;exact wpAny_pyNext_dict_end (knd:=c7 X.prog X.w) (kvs:=vs) (I.ok.hd hc) (by rw[<- hlen]; exact st) hD (by simp; lia) λh' eb=>#[rfl,I.turnedL (t':=s.toks) (ch:=[it]) (λb o hb e=>eb b o (λz=>hb (by simp [z])) e) hf]
 self:=λ_ _ _ _ _ st h=>wpAny_pyIter_keyiter st h
section
variable {X:Cx} {tg:Expr}
abbrev iDk (td:TE):TI:=λσ H R=>td σ H λx H1=>∃d kvs,x=↥d/\H1 d=⇑(.dK kvs)/\∀o,R (jE o d kvs) (upd H1 d (.frz o (.dK kvs)))
def E6 {l:Expr} {td:TE} (hl:PE X l td):PI X tg l (iDk td):=by
 intro pins s σ H R I h;refine aW (hl pins s σ H _ I h) λv s1 z200_=>?_;let#[x,H1,I1,r1,q1]:=z200_;let#[d,kvs,rfl,e,q]:=q1;cases r1;let#[o,ho,I2]:=I1.freeze e;let#[ho2,z,hd,vs,rel,dd]:=I2.hok d _ aI;let#[o',es,ep,ho',hx,hdat,r]:=id dd;rw[ho] at ho';cases ho';let#[vs3,rel3,hD3]:=il I2 aI hdat;have hlen:kvs.length=vs3.length:=KV.length rel3;refine wpAny_pyIter_dict (knd:=c7 X.prog X.w) (kvs:=vs3) (ep:=ep) hd hD3 ?_;rw[<- hlen];show#[s1.heap.objs.size,[s1.heap.objs.size],17,I2.kept (t':=s1.toks) λb o e=>Gr _ e,yc o d s1.heap.objs.size kvs es ep hdat,#[_,HR _ rfl,7],λb hb=>?_,q o];have z:b=s1.heap.objs.size:=↑hb
 subst z;exact I2.fpOk (Gw _) (I2.hok.fresh (Gw _))
def Bt {o:Obj} {d:Kg} {kvs:List (aE×V)} {g:TG} {tb:TS} {D:Ends} {σ:St} {H:Hp} (Pv:Nat->St->Hp->Prop) (h0:Pv 0 σ H) (hl:∀i σ H,i<=kvs.length->Pv i σ H->H d=⇑(.frz o (.dK kvs)))
   (hs:∀i kv σ H,kvs[i]?=⇑kv->Pv i σ H->g (kV kv.1) σ H λσ2 H2=>tb { D with nx:=Pv (i+1),ct:=Pv (i+1),bk:=D.nx } σ2 H2) (hd:∀σ H,Pv kvs.length σ H->D.nx σ H) :
   ∃W:Nat->Nat->St->Hp->Prop,(∃m,W 0 m σ H)/\∀i m σ H,W i m σ H->((jE o d kvs).stop i H/\D.nx σ H)\/((jE o d kvs).go i H/\∃N:St->Hp->Prop,(∀σ' H',N σ' H'->∃m',m'<m/\W (i+1) m' σ' H')/\∀x H',(jE o d kvs).yld i H x H'->g x σ H' λσ2 H2=>tb { D with nx:=N,ct:=N,bk:=D.nx } σ2 H2):=by
 show#[λi m σ H=>m=kvs.length - i/\i<=kvs.length/\Pv i σ H,#[kvs.length,by simp,Hj _,h0],?_];rintro i m σ H ⟨rfl,hi,p⟩;have q:=hl i σ H hi p;by_cases hlt:i<kvs.length
 . refine .inr #[#[q,hlt],Pv (i+1),λσ' H' p'=>#[kvs.length - (i+1),∅,rfl,hlt,p'],λx H' y=>?_];let#[rfl,y]:=y;rw[y kvs[i] (by simp [hlt])];exact hs i kvs[i] σ H' (by simp [hlt]) p
 . have e:i=kvs.length:=by lia
   subst e;exact .inl #[#[q,rfl],hd σ H p]
end
abbrev BV:R2:=λx y H Q=>∃(c:Nat) (k:Int),x=.str #[(List.toArray [c])]/\y=.int k/\1<=k/\k<=1000/\Q (.str #[(List.replicate k.toNat c).toArray]) H
def ue (c:Nat):∀(n:Nat) (a:Array Nat),(List.replicate n (List.toArray [c])).foldl (·++·) a=a++(List.replicate n c).toArray
 | 0,a=>by simp
 | n+1,a=>by rw[Ii,Hv,ue c n,Ii];apply Array.toList_inj.mp;simp
def AA {X:Cx}:bU X (binaryOp .Mult) BV:=by
 intro pins s σ H x y v u Q I rx ry h;let#[c,k,rfl,rfl,k0,k1,q]:=h;let#[t,rfl]:=rx;let#[tu,rfl]:=ry;have hl:(⟨(List.toArray [c])⟩:Str).length=1:=rfl;refine PySem.P.mul_str ?_ (λ_ _=>?_) (λ_ _=>?_) ?_
 . rw[Hg ∅,Hg ∅]; rfl
 . rw[hl];have:(1:Int)<=(2 ^ 63 - 1) / k:=by
     rw[Int.le_ediv_iff_mul_le ∅]
     lia
   lia
 . rw[hl];show decide (1 * k.toNat > sizeLine)=false;refine Hg ?_;have:(1000:Nat)<sizeLine:=by decide
   lia
 . rw[Gu ∅];by_cases e:k=1
   . subst e;rw[HI 0xA];show#[.str #[(List.toArray [c])],H,I,#[5],q]
   . rw[Gu (by rw[hl]; simp [e]),ue];show#[?_,?_]
     . show _<=_;simp [Str.length];have:(1000:Nat)<sizeLine:=by decide
       lia
     . have ee:((List.toArray []):Array Nat)++(List.replicate k.toNat c).toArray=(List.replicate k.toNat c).toArray:=by simp
       rw[ee];show#[.str _,H,I.tok _,#[5],q]
variable {p:Kg}
section
variable {g:TG} {tif:TT} {te:TE} {js:List (Kd Nat)} {σ:St} {H:Hp} {Q:VK}
abbrev kq (H:Hp) (p:Kg) (T:Nat->Hp->V->Prop) (i:Nat) (acc:List V) (H2:Hp):Prop:=aB H H2/\H2 p=⇑(.lst acc)/\acc.length=i/\∀(j:Nat) v,acc[j]?=⇑v->T j (ers p H2) v
def D5 {H:Hp} {o:HO}:ers p (upd H p o)=ers p H:=by
 funext b;unfold ers;by_cases h:b=p
 . rw[HI h,HI h]
 . rw[Gu h,Gu h,aJ h]
def uX {T:Nat->Hp->V->Prop} {i:Nat} {acc:List V} {H2 H3:Hp} {v:V} (tm:∀i v H H',aB H H'->T i H v->T i H' v) (hp:H p=none) (r:kq H p T i acc H2) (s3:aB H2 H3) (hv:T i (ers p H3) v) :
   H3 p=⇑(.lst acc)/\kq H p T (i+1) (acc++[v]) (upd H3 p (.lst (acc++[v]))):=by
 let#[s2,e2,rfl,ht]:=r;show#[s3 _ _ e2,(s2\s3).upd hp,aI,by simp,λj u hu=>?_];rw[D5];by_cases hj:j<acc.length
 . rw[IB hj] at hu;exact tm _ _ _ _ (aB.ers s3) (ht j u hu)
 . have:j=acc.length:=by
     have:=(Gq.mp hu).1;simp at this
     lia
   subst this;rw[II (Gw _)] at hu;simp at hu;rw[<- hu];exact hv
def km {K:Kh} {a:Kg} {xs:List V} (T:Nat->Hp->V->Prop) (tm:∀i v H H',aB H H'->T i H v->T i H' v) (hn:xs.length<=1000000) (hS:aG K H a xs) (hp:H p=none)
   (hs:∀i x H2 (R:VK),xs[i]?=⇑x->aB H H2->(∃acc,H2 p=⇑(.lst acc))->(∀v H3,aB H2 H3->T i (ers p H3) v->R v H3)->g x (cv js σ) H2 λσ2 H3=>tif σ2 H3 λc H4=>if c=true then te σ2 H4 R else False)
   (hd:∀H2 vs,aB H H2->H2 p=⇑(.lst vs)->vs.length=xs.length->(∀(i:Nat) v,vs[i]?=⇑v->T i (ers p H2) v)->Q ↥p H2) (mono:∀x H2 (M M':St->Hp->Prop),(∀σ' H',M σ' H'->M' σ' H')->g x (cv js σ) H2 M->g x (cv js σ) H2 M':=by intro _ _ _ _ h z; exact h _ _ z) (mon2:∀σ2 H2 (M M':Bool->Hp->Prop),(∀c H',M c H'->M' c H')->tif σ2 H2 M->tif σ2 H2 M':=by intro _ _ _ _ h z; exact h _ _ z) :
   jT (gv K a) g tif te js σ Q p H:=by
 refine oq hn (kq H p T) #[aB.new hp,aI,rfl,λj v h=>by simp at h] ?_ ?_ ?_
 . rintro i acc H2 hi ⟨s2,e2,l2,_⟩;show#[e2,∅,s2.seq hS]
 . rintro i x acc H2 hx r;refine mono _ _ _ _ (λσ' H' z=>?_) (hs i x H2 _ hx r.1 #[acc,r.2.1] λv H3 s3 t3=>uX tm hp r s3 t3);refine mon2 _ _ _ _ (λc H'' zz=>?_) z;cases c with
   | true=>exact zz
   | false=>exact zz.elim
 . rintro acc H2 ⟨s2,e2,l2,t2⟩;exact hd H2 acc s2 e2 l2 t2
def u6 {K:Kh} {a:Kg} {xs:List V} (T:Nat->Hp->V->Prop) (tm:∀i v H H',aB H H'->T i H v->T i H' v) (hn:xs.length<=1000000) (hS:aN K H a xs) (hp:H p=none)
   (hs:∀i x H2 (R:VK),xs[i]?=⇑x->aB H H2->(∃acc,H2 p=⇑(.lst acc))->(∀v H3,aB H2 H3->T i (ers p H3) v->R v H3)->g x (cv js σ) H2 λσ2 H3=>tif σ2 H3 λc H4=>if c=true then te σ2 H4 R else False)
   (hd:∀H2 vs,aB H H2->H2 p=⇑(.lst vs)->vs.length=xs.length->(∀(i:Nat) v,vs[i]?=⇑v->T i (ers p H2) v)->Q ↥p H2) (mono:∀x H2 (M M':St->Hp->Prop),(∀σ' H',M σ' H'->M' σ' H')->g x (cv js σ) H2 M->g x (cv js σ) H2 M':=by intro _ _ _ _ h z; exact h _ _ z) (mon2:∀σ2 H2 (M M':Bool->Hp->Prop),(∀c H',M c H'->M' c H')->tif σ2 H2 M->tif σ2 H2 M':=by intro _ _ _ _ h z; exact h _ _ z) :
   jT (hX K a) g tif te js σ Q p H:=by
 refine qv hn (kq H p T) #[aB.new hp,aI,rfl,λj v h=>by simp at h] ?_ ?_ ?_
 . rintro i acc H2 hi ⟨s2,e2,l2,_⟩;show#[e2,∅,s2<*hS]
 . rintro i x acc H2 hx r;refine mono _ _ _ _ (λσ' H' z=>?_) (hs i x H2 _ hx r.1 #[acc,r.2.1] λv H3 s3 t3=>uX tm hp r s3 t3);refine mon2 _ _ _ _ (λc H'' zz=>?_) z;cases c with
   | true=>exact zz
   | false=>exact zz.elim
 . rintro acc H2 ⟨s2,e2,l2,t2⟩;exact hd H2 acc s2 e2 l2 t2
end
end L2
namespace Wk
open PySem L2 Gx Fl
structure Wr where
 (a dx st sd ct fl:Addr)
structure Fm where
 (a dx nd:Addr)
 fn:Str
 row:Nat
 kvs:List (aE×V)
abbrev wF (w:Wr) (oc:V) (rc:Int):List (Str×V):=[("flows",↥w.fl),("stack",↥w.st),("outcome",oc),("sendings",↥w.sd),("contents",↥w.ct),("records",.int rc)]
abbrev fF (f:Fm):List (Str×V):=[("function",.str f.fn),("row",.int f.row),("named",↥f.nd)]
structure FrAt (cF:Addr) (H:Hp) (f:Fm):Prop where
 o:H f.a=⇑(.ins cF f.dx (fF f))
 n:H f.nd=⇑(.dK f.kvs)
structure WAt (cW cF:Addr) (Hb H:Hp) (w:Wr) (fs:List Fm) (oc:V) (sent:List V) (co:HO) (rc:Int):Prop where
 b:aB Hb H
 o:H w.a=⇑(.ins cW w.dx (wF w oc rc))
 st:H w.st=⇑(.lst (fs.map λf=>V.ref f.a))
 sd:H w.sd=⇑(.lst sent)
 ct:H w.ct=⇑co
 fr:∀f∈fs,FrAt cF H f
 na:(fs.map (·.a)).Nodup
 nn:(fs.map (·.nd)).Nodup
 ne:w.st≠w.sd
 nc:∀f∈fs,f.nd≠w.ct
 cs:w.ct≠w.st/\w.ct≠w.sd/\w.ct≠w.a
 nf:∀f∈fs,f.a≠w.a/\f.a≠w.ct
 fa:Hb w.a=none
 fst:Hb w.st=none
 fsd:Hb w.sd=none
 fct:Hb w.ct=none
 ff:∀f∈fs,Hb f.a=none/\Hb f.nd=none
variable {f:Fm} {H':Hp}
section
variable {cW cF:Kg} {Hb H H2:Hp} {w:Wr} {fs:List Fm} {oc:V} {sent:List V} {co:HO} {rc:Int}
abbrev gr (Hb H H2:Hp):Hp:=λb=>match H b with
 | some _=>Hb b
 | none=>H2 b
def cH (hb:aB Hb H):aB Hb (gr Hb H H2):=λb o h=>by unfold gr;rw[hb _ _ h];exact h
def E7 (hb:aB Hb H) (s:aB H H2):aB (gr Hb H H2) H2:=λb o h=>by
 unfold gr at h;cases e:H b with
 | none=>rw[e] at h; exact h
 | some v=>rw[e] at h; exact s _ _ (hb _ _ h)
def eE {b:Kg} {o:HO} (h:H b=none) (h2:H2 b=⇑o):gr Hb H H2 b=⇑o:=by unfold gr;rw[h];exact h2
def gq {b:Kg} {o:HO} (h:H b=⇑o) (hb:Hb b=none):gr Hb H H2 b=none:=by unfold gr;rw[h];exact hb
def WAt.grow (h:WAt cW cF Hb H w fs oc sent co rc) (s:aB H H2):WAt cW cF (gr Hb H H2) H2 w fs oc sent co rc :=
 #[E7 h.b s,s _ _ h.o,s _ _ h.st,s _ _ h.sd,s _ _ h.ct,λf hf=>#[s _ _ (h.fr f hf).o,s _ _ (h.fr f hf).n],h.na,h.nn,h.ne,h.nc,h.cs,h.nf,gq h.o h.fa,gq h.st h.fst,gq h.sd h.fsd,gq h.ct h.fct,λf hf=>#[gq (h.fr f hf).o (h.ff f hf).1,gq (h.fr f hf).n (h.ff f hf).2]]
def WAt.put {x:Kg} {o o':HO} (h:WAt cW cF Hb H w fs oc sent co rc) (hx:Hb x=⇑o):WAt cW cF (upd Hb x o') (upd H x o') w fs oc sent co rc:=by
 have k:∀{b:Kg},Hb b=none->b≠x:=λhb z=>by rw[z,hx] at hb; cases hb
 show#[λb u q=>?_,by rw[aJ (k h.fa)]; exact h.o,by rw[aJ (k h.fst)]; exact h.st,by rw[aJ (k h.fsd)]; exact h.sd,by rw[aJ (k h.fct)]; exact h.ct,λf hf=>#[by rw[aJ (k (h.ff f hf).1)]; exact(h.fr f hf).o,by rw[aJ (k (h.ff f hf).2)]; exact(h.fr f hf).n],
   h.na,h.nn,h.ne,h.nc,h.cs,h.nf,by rw[aJ (k h.fa)]; exact h.fa,by rw[aJ (k h.fst)]; exact h.fst,by rw[aJ (k h.fsd)]; exact h.fsd,by rw[aJ (k h.fct)]; exact h.fct,λf hf=>#[by rw[aJ (k (h.ff f hf).1)]; exact(h.ff f hf).1,by rw[aJ (k (h.ff f hf).2)]; exact(h.ff f hf).2]]
 by_cases z:b=x
 . subst z; rw[aI] at q ⊢; exact q
 . rw[aJ z] at q ⊢; exact h.b _ _ q
def cU {a b:Kg} {x y:HO} (h1:H a=⇑x) (h2:H b=⇑y) (h:x≠y):a≠b:=λz=>by rw[z,h2] at h1;exact h (Option.some.inj h1).symm
def WAt.send {v:V} (h:WAt cW cF Hb H w fs oc sent co rc):WAt cW cF Hb (upd H w.sd (.lst (sent++[v]))) w fs oc (sent++[v]) co rc :=
 #[h.b.upd h.fsd,by rw[aJ (cU h.o h.sd 0x6)]; exact h.o,by rw[aJ h.ne]; exact h.st,aI,by rw[aJ h.cs.2.1]; exact h.ct,λf hf=>#[by rw[aJ (cU (h.fr f hf).o h.sd 0x6)]; exact(h.fr f hf).o,by rw[aJ (cU (h.fr f hf).n h.sd 0x6)]; exact(h.fr f hf).n],h.na,h.nn,h.ne,h.nc,h.cs,h.nf,h.fa,h.fst,h.fsd,h.fct,h.ff]
def WAt.out {v:V} (h:WAt cW cF Hb H w fs oc sent co rc):WAt cW cF Hb (upd H w.a (.ins cW w.dx (wF w v rc))) w fs v sent co rc :=
 #[h.b.upd h.fa,aI,by rw[aJ (cU h.st h.o 0x6)]; exact h.st,by rw[aJ (cU h.sd h.o 0x6)]; exact h.sd,by rw[aJ h.cs.2.2]; exact h.ct,λf hf=>#[by rw[aJ (h.nf f hf).1]; exact(h.fr f hf).o,by rw[aJ (cU (h.fr f hf).n h.o 0x6)]; exact(h.fr f hf).n],h.na,h.nn,h.ne,h.nc,h.cs,h.nf,h.fa,h.fst,h.fsd,h.fct,h.ff]
def WAt.pop (h:WAt cW cF Hb H w (fs++[f]) oc sent co rc):WAt cW cF Hb (upd H w.st (.lst (fs.map λf=>V.ref f.a))) w fs oc sent co rc:=by
 have sub:∀g∈fs,g∈fs++[f]:=λg hg=>Hx _ hg;show#[h.b.upd h.fst,by rw[aJ (cU h.o h.st 0x6)]; exact h.o,aI,by rw[aJ h.ne.symm]; exact h.sd,by rw[aJ h.cs.1]; exact h.ct,λg hg=>#[by rw[aJ (cU (h.fr g (sub g hg)).o h.st 0x6)]; exact(h.fr g (sub g hg)).o,by rw[aJ (cU (h.fr g (sub g hg)).n h.st 0x6)]; exact(h.fr g (sub g hg)).n],
   ?_,?_,h.ne,λg hg=>h.nc g (sub g hg),h.cs,λg hg=>h.nf g (sub g hg),h.fa,h.fst,h.fsd,h.fct,λg hg=>h.ff g (sub g hg)]
 . have:=h.na; rw[Gy] at this; exact(IJ.mp this).1
 . have:=h.nn; rw[Gy] at this; exact(IJ.mp this).1
def WAt.goto {r:Nat} (h:WAt cW cF Hb H w (fs++[f]) oc sent co rc):WAt cW cF Hb (upd H f.a (.ins cF f.dx (fF { f with row:=r }))) w (fs++[{ f with row:=r }]) oc sent co rc:=by
 have hf:f∈fs++[f]:=HS _ (HG.mpr rfl);have sub:∀g∈fs,g∈fs++[f]:=λg hg=>Hx _ hg;have of:=(h.fr f hf).o;have na:=h.na;rw[Gy] at na;have apart:∀g∈fs,g.a≠f.a:=λg hg z=>(IJ.mp na).2.2 _ (HX.mpr #[g,hg,rfl]) _ (HG.mpr rfl) z;have fall:∀{P:Fm->Prop},(∀g∈fs,P g)->P { f with row:=r }->∀g∈fs++[{ f with row:=r }],P g:=λh1 h2 g hg=>by
   rcases HW.mp hg with hg|hg
   . exact h1 g hg
   . rw[HG.mp hg]; exact h2
 show#[h.b.upd (h.ff f hf).1,by rw[aJ (h.nf f hf).1.symm]; exact h.o,?_,by rw[aJ (cU h.sd of 0x6)]; exact h.sd,by rw[aJ (h.nf f hf).2.symm]; exact h.ct,
   fall (λg hg=>#[by rw[aJ (apart g hg)]; exact(h.fr g (sub g hg)).o,by rw[aJ (cU (h.fr g (sub g hg)).n of 0x6)]; exact(h.fr g (sub g hg)).n]) #[aI,?_],?_,?_,h.ne,fall (λg hg=>h.nc g (sub g hg)) (h.nc f hf),h.cs,fall (λg hg=>h.nf g (sub g hg)) (h.nf f hf),h.fa,h.fst,h.fsd,h.fct,fall (λg hg=>h.ff g (sub g hg)) (h.ff f hf)]
 . rw[aJ (cU h.st of 0x6),h.st,Gy,Gy]; rfl
 . show upd H f.a _ f.nd=⇑(.dK f.kvs);rw[aJ (cU (h.fr f hf).n of 0x6)]; exact(h.fr f hf).n
 . have:=h.na; rw[Gy] at this ⊢; exact this
 . have:=h.nn; rw[Gy] at this ⊢; exact this
def WAt.name {ks:List (aE×V)} (h:WAt cW cF Hb H w (fs++[f]) oc sent co rc):WAt cW cF Hb (upd H f.nd (.dK ks)) w (fs++[{ f with kvs:=ks }]) oc sent co rc:=by
 have hf:f∈fs++[f]:=HS _ (HG.mpr rfl);have sub:∀g∈fs,g∈fs++[f]:=λg hg=>Hx _ hg;have nf:=(h.fr f hf).n;have nn:=h.nn;rw[Gy] at nn;have apart:∀g∈fs,g.nd≠f.nd:=λg hg z=>(IJ.mp nn).2.2 _ (HX.mpr #[g,hg,rfl]) _ (HG.mpr rfl) z;have fall:∀{P:Fm->Prop},(∀g∈fs,P g)->P { f with kvs:=ks }->∀g∈fs++[{ f with kvs:=ks }],P g:=λh1 h2 g hg=>by
   rcases HW.mp hg with hg|hg
   . exact h1 g hg
   . rw[HG.mp hg]; exact h2
 show#[h.b.upd (h.ff f hf).2,by rw[aJ (cU h.o nf 0x6)]; exact h.o,?_,by rw[aJ (cU h.sd nf 0x6)]; exact h.sd,by rw[aJ (h.nc f hf).symm]; exact h.ct,
   fall (λg hg=>#[by rw[aJ (cU (h.fr g (sub g hg)).o nf 0x6)]; exact(h.fr g (sub g hg)).o,by rw[aJ (apart g hg)]; exact(h.fr g (sub g hg)).n]) #[?_,aI],?_,?_,h.ne,fall (λg hg=>h.nc g (sub g hg)) (h.nc f hf),h.cs,fall (λg hg=>h.nf g (sub g hg)) (h.nf f hf),h.fa,h.fst,h.fsd,h.fct,fall (λg hg=>h.ff g (sub g hg)) (h.ff f hf)]
 . rw[aJ (cU h.st nf 0x6),h.st,Gy,Gy]; rfl
 . show upd H f.nd _ f.a=⇑(.ins cF f.dx (fF f));rw[aJ (cU (h.fr f hf).o nf 0x6)]; exact(h.fr f hf).o
 . have:=h.na; rw[Gy] at this ⊢; exact this
 . have:=h.nn; rw[Gy] at this ⊢; exact this
def WAt.push (h:WAt cW cF Hb H w fs oc sent co rc) (s:aB H H2) (ha:H f.a=none) (hn:H f.nd=none) (hF:FrAt cF H2 f) :
   WAt cW cF (ers f.a (ers f.nd (gr Hb H H2))) (upd H2 w.st (.lst ((fs++[f]).map λf=>V.ref f.a))) w (fs++[f]) oc sent co rc/\aB Hb (ers f.a (ers f.nd (gr Hb H H2))):=by
 have h2:=h.grow s;have old:∀{b:Kg} {o:HO},H b=⇑o->b≠f.a/\b≠f.nd:=λhb=>#[(λz=>by rw[z,ha] at hb; cases hb),(λz=>by rw[z,hn] at hb; cases hb)]
 have er:∀{b:Kg},gr Hb H H2 b=none->ers f.a (ers f.nd (gr Hb H H2)) b=none:=λ{b} hb=>by
   unfold L2.ers;split
   . rfl
   . split
     . rfl
     . exact hb
 have fall:∀{P:Fm->Prop},(∀g∈fs,P g)->P f->∀g∈fs++[f],P g:=λh1 h2 g hg=>by
   rcases HW.mp hg with hg|hg
   . exact h1 g hg
   . rw[HG.mp hg]; exact h2
 have hb2:aB (ers f.a (ers f.nd (gr Hb H H2))) H2:=λb o hb=>by
   unfold L2.ers at hb;split at hb
   . cases hb
   . split at hb
     . cases hb
     . exact h2.b _ _ hb
 show#[#[hb2.upd (er h2.fst),by rw[aJ (cU h2.o h2.st 0x6)]; exact h2.o,aI,by rw[aJ h.ne.symm]; exact h2.sd,by rw[aJ h.cs.1]; exact h2.ct,?_,?_,?_,h.ne,fall h.nc (old h.ct).2.symm,h.cs,fall h.nf #[(old h.o).1.symm,(old h.ct).1.symm],er h2.fa,er h2.fst,er h2.fsd,er h2.fct,?_],λb o hb=>?_]
 . refine fall (λg hg=>#[by rw[aJ (cU (h2.fr g hg).o h2.st 0x6)]; exact(h2.fr g hg).o,by rw[aJ (cU (h2.fr g hg).n h2.st 0x6)]; exact(h2.fr g hg).n]) #[by rw[aJ (cU hF.o h2.st 0x6)]; exact hF.o,by rw[aJ (cU hF.n h2.st 0x6)]; exact hF.n]
 . rw[Gy,IJ];show#[h.na,0xA,λa ha' b hb z=>?_];let#[g,hg,rfl]:=HX.mp ha';rw[HG.mp hb] at z;exact(old (h.fr g hg).o).1 z
 . rw[Gy,IJ];show#[h.nn,0xA,λa ha' b hb z=>?_];let#[g,hg,rfl]:=HX.mp ha';rw[HG.mp hb] at z;exact(old (h.fr g hg).n).2 z
 . refine fall (λg hg=>#[er (h2.ff g hg).1,er (h2.ff g hg).2]) #[?_,?_]
   . unfold L2.ers; rw[HI rfl]
   . unfold L2.ers;split
     . rfl
     . rw[HI rfl]
 . have o':=h.b _ _ hb;have n1:=old o';rw[cy n1.1,cy n1.2];exact cH h.b _ _ hb
abbrev NI (H H':Hp):Prop:=∀b o,H b=⇑o->(∀C dx fs,o≠.ins C dx fs)->H' b=⇑o
def NI.tup {K:Kh} {a:Kg} {xs:List V} {H':Hp} (e:NI H H') (h:aN K H a xs):aN K H' a xs:=by
 rcases h with h|h
 . refine .inl ?_;rcases h with h|h
   . exact .inl (e _ _ h (λ_ _ _ z=>by cases z))
   . exact .inr (by
       obtain h:=h
       first
         | exact e _ _ h (λ_ _ _ z=>by cases z)
         | (let#[n,h]:=h; exact⟨n,e _ _ h (λ_ _ _ z=>by cases z)⟩))
 . exact .inr h
def GU {K:Kh} {xs as:List V} {g:Kd Str} (e:NI H H') (h:K12.RowS K H xs g as):K12.RowS K H' xs g as:=by cases h <;> first|(constructor; done)|(constructor; exact e<*(by assumption))
def Aj {K:Kh} {f:F2.Fd} (h:F2.FnAt K H f) (e:NI H H'):F2.FnAt K H' f :=
 #[e<*h.fn,e<*h.pr,e<*h.rw_,λw hw=>by let#[rest,h1,h2]:=h.rk w hw; show#[rest,e<*h1,h2],
   #[by let#[n,b,p,r,h1,h2,h3]:=h.fu.fn; show#[n,b,p,r,e<*h1,e<*h2,e<*h3],λd hd=>let z:=h.fu.rows d hd; #[by let#[xs,h1,h2]:=z.row; show#[xs,e<*h1,GU e h2],z.ats,z.len,z.nm],h.fu.pn,h.fu.pl,h.fu.dl],h.wf,h.len]
def sy {K:Kh} {C x:Kg} {fns:List F2.Fd} (h:F2.FlowsAt K C H x fns) (e:NI H H') (ex:∀o,H x=⇑o->H' x=⇑o):F2.FlowsAt K C H' x fns:=by
 let#[dx,fz,d,kv,nl,wl,h0,h1,h2,h3,h4,h5,h6,h7,h8]:=h.ob;show#[λf hf=>Aj (h.all f hf) e,h.nd,#[dx,fz,d,kv,nl,wl,h0,#[ex _ h1.ob,λj hj=>e _ _ (h1.dc j hj) (λ_ _ _ z=>by cases z)],h2,h3,h4,h5,h6,h7,λi f hi=>#[e _ _ (h8 i f hi).1 (λ_ _ _ z=>by cases z),?_]]];let#[vs,e1,e2,e3]:=(h8 i f hi).2;show#[vs,e _ _ e1 (λ_ _ _ z=>by cases z),e2,λk v q=>?_];let#[o,due,vo]:=e3 k v q;show#[o,due,?_];cases o with
 | none=>exact vo
 | some l=>let#[p,z1,z2]:=vo; show#[p,z1,e _ _ z2 (λ_ _ _ z=>by cases z)]
end
abbrev av (kvs:List (aE×V)):V->Kd V
 | .str s=>aZ kvs (Sum.inr s)
 | .int i=>⇑(.int i)
 | _=>none
abbrev cD (F:F2.Fd) (k j r:Nat):Prop:=∃l,K13.Due (F2.kds F) k ⇑l/\l[j]?=⇑r
section
variable {K:Kh} {C x:Kg} {H:Hp} {fns:List F2.Fd} {F:F2.Fd}
abbrev ke (C:Kg) (H:Hp) (x:Kg) (fld:Str) (n:Str) (v:V):Prop:=∃dx fs d kvs,H x=⇑(.ins C dx fs)/\fs.lookup fld=⇑↥d/\H d=⇑(.dK kvs)/\aZ kvs 0xC=⇑v
def ck {H:Hp} {d:Kg} {kvs:List (aE×V)} {n:Str} {v:V} (h:H d=⇑(.dK kvs)) (hv:aZ kvs 0xC=⇑v):cX H d (.str n) ⇑v:=by have:=cX.k (k:=0xC) h;rw[hv] at this;exact this
def A' (h:F2.FlowsAt K C H x fns) (hF:F∈fns):ke C H x "rows_of" F.name ↥F.ra:=by let#[i,hi]:=Hy hF;let#[dx,fz,d,kv,nl,wl,h0,hO,h2,h3,h4,h5,h6,h7,h8]:=h.ob;have hd:=hO.dc 3 #[];rw[h5] at hd;show#[dx,8,hO.ob,qT _ _,hd,F2.kD_at _ h.nd hi]
def Cw (h:F2.FlowsAt K C H x fns) (hF:F∈fns):ke C H x "params_of" F.name ↥F.pa:=by let#[i,hi]:=Hy hF;let#[dx,fz,d,kv,nl,wl,h0,hO,h2,h3,h4,h5,h6,h7,h8]:=h.ob;have hd:=hO.dc 2 #[];rw[h4] at hd;show#[dx,8,hO.ob,tN _ _,hd,F2.kD_at _ h.nd hi]
def uK (h:F2.FlowsAt K C H x fns) (hF:F∈fns):∃nl,ke C H x "names_in" F.name ↥nl/\H nl=⇑(.lst ((F2.nms F).map V.str)):=by let#[i,hi]:=Hy hF;let#[dx,fz,d,kv,nl,wl,h0,hO,h2,h3,h4,h5,h6,h7,h8]:=h.ob;have hd:=hO.dc 4 #[];rw[h6] at hd;show#[nl i,#[dx,8,hO.ob,uZ _ _,hd,F2.kD_at _ h.nd hi],(h8 i F hi).1]
def AB (h:F2.FlowsAt K C H x fns) (hF:F∈fns) {k j r:Nat} (hk:k<F.rs.length) (hw:cD F k j r):∃wl tp vs l,ke C H x "ways_in" F.name ↥wl/\H wl=⇑(.lst vs)/\vs[k]?=⇑↥tp/\H tp=⇑(.tup (K13.natsV l))/\l[j]?=⇑r:=by
 let#[i,hi]:=Hy hF;let#[dx,fz,d,kv,nl,wl,h0,hO,h2,h3,h4,h5,h6,h7,h8]:=h.ob;have hd:=hO.dc 5 #[];rw[h7] at hd;let#[vs,e1,e2,e3]:=(h8 i F hi).2;have hl:(F2.kds F).length=F.rs.length:=by unfold F2.kds; rw[Go]
 have ev:vs[k]?=some vs[k]:=HN ∅;let#[o,due,vo]:=e3 k _ ev;let#[l,dl,hl']:=hw;rw[K13.Due.uniq due dl] at vo;let#[p,ep,hp]:=vo;show#[wl i,p,vs,l,#[dx,8,hO.ob,qD _ _,hd,F2.kD_at _ h.nd hi],e1,by rw[ev,ep],hp,hl']
def GV (h:F2.FlowsAt K C H x fns):∃dx fs fz,H x=⇑(.ins C dx fs)/\fns[fns.length - 1]?=⇑fz/\fs.lookup ("last":Str)=⇑(.str fz.name):=by let#[dx,fz,d,kv,nl,wl,h0,hO,_]:=h.ob;show#[dx,_,fz,hO.ob,h0,DL _ _]
end
def qq {K:Kh} {H:Hp}:∀{vs:List V} {ns:List Str},vs.length=ns.length->(∀(i:Nat) v,vs[i]?=⇑v->∃y tp,ns[i]?=⇑y/\v=↥tp/\H tp=⇑(.tup [.str y,.int 0]))->∃ps:List Kg,vs=ps.map V.ref/\Paired (λa (kv:aE×V)=>aN K H a [kV kv.1,kv.2]) ps (ns.map λn=>(0xC,V.int 0))
 | [],[],_,_=>#[[],rfl,.nil]
 | v::vs,n::ns,hl,h=>by
   let#[y,tp,h1,h2,h3]:=h 0 v rfl;let#[ps,e,p]:=qq (vs:=vs) (ns:=ns) ↑hl (λi u hu=>by let#[y,tp,q]:=h (i+1) u ↑hu;show#[y,tp,by simpa using q])
   have:n=y:=↑h1
   subst this;show#[tp::ps,by rw[h2,e]; rfl,.cons (aN.of h3) p]
 | [],_::_,hl,_=>by simp at hl
 | _::_,[],hl,_=>by simp at hl
def zn (kvs:List (aE×V)) (k:aE) (v:V):(aQ kvs k v).length<=kvs.length+1:=by
 induction kvs with
 | nil=>simp [aQ]
 | cons p r ih =>
   unfold aQ;split <;> simp <;> lia
def hJ {α:Type} (g:α->aE×V):∀(l:List α) (d:List (aE×V)),(l.foldl (λd p=>aQ d (g p).1 (g p).2) d).length<=d.length+l.length
 | [],d=>by simp
 | p::l,d=>by
   rw[Hv,Hs];have h1:=hJ g l (aQ d (g p).1 (g p).2);have h2:=zn d (g p).1 (g p).2
   lia
end Wk
namespace K41
open PySem L2 Gx Fl
structure RR where
 w:Rw
 d:K12.RowD
abbrev oS (K:Kh) (H:Hp) (x:RR):Prop:=x.w.r=x.d.r/\ir K H x.w/\K12.RowAt K H x.d
def ok_lets {l:List Nat} (h:∀c∈l,c∈K12.lets.cps.toList):PyData.strOk (tx l)=true:=by
 have hz:=K12.lets_ok;unfold PyData.strOk at hz ⊢;rw[Array.all_eq_true'] at hz ⊢;intro x hx;have hx:x∈l:=by simpa [tx] using hx
 exact hz x (by simpa using h x hx)
end K41
namespace Bg
open PySem L2 Gx K41
abbrev HasD (K:Kh) (H:Hp) (n:Nat) (v:V):Prop:=∃d,bp n d/\bP K H d v
abbrev HasA (K:Kh) (H:Hp) (n:Nat) (xs:List V):Prop:=∃ds,(∀d∈ds,bp n d)/\cJ K H ds xs
def HasD.mono {K:Kh} {H H':Hp} {n:Nat} {v:V} (h:HasD K H n v) (e:aB H H'):HasD K H' n v:=by let#[d,l,z]:=h; show#[d,l,bP.mono e d v z]
variable {K:Kh} {H:Hp} {n:Nat}
def HasD.up {m:Nat}{v:V} (h:HasD K H n v) (e:n<=m):HasD K H m v:=by let#[d,l,z]:=h; show#[d,l*>e,z]
def HasD.str {K:Kh} {H:Hp} {n:Nat} {s:Str} (h:PyData.strOk s=true):HasD K H n (.str s):=#[.str s,bp.str h,by unfold bP; rfl]
def HasD.int {K:Kh} {H:Hp} {n:Nat} {i:Int}:HasD K H n (.int i):=#[.int i,bp.int i,by unfold bP; rfl]
def HasD.bl {b:Bool}:HasD K H n (.bl b):=#[.bool b,bp.bool b,by unfold bP; rfl]
def HasD.non :HasD K H n .non:=#[.none,bp.none,by unfold bP; rfl]
def HasA.nil :HasA K H n []:=#[[],λd h=>(by cases h),by unfold cJ; rfl]
def HasA.cons {K:Kh} {H:Hp} {n:Nat} {x:V} {xs:List V} (h:HasD K H n x) (t:HasA K H n xs):HasA K H n (x::xs):=by let#[d,l,z]:=h;let#[ds,ls,zs]:=t;show#[d::ds,λe he=>(HM.mp he).elim (λz=>z ▸ l) (ls e),?_];unfold cJ;show#[9,z,zs]
def HasA.of {K:Kh} {H:Hp} {n:Nat}:∀{xs:List V},(∀x∈xs,HasD K H n x)->HasA K H n xs
 | [],_=>.nil
 | x::xs,h=>.cons (h x HH) (HasA.of λy hy=>h y (Gz _ hy))
def HasD.tup {K:Kh} {H:Hp} {n:Nat} {a:Kg} {xs:List V} (h:aN K H a xs) (t:HasA K H n xs):HasD K H (n+1) ↥a:=by let#[ds,ls,zs]:=t;show#[.tuple ds,bp.tuple ls,?_];unfold bP;show#[a,xs,rfl,h,zs]
abbrev Twin (K:Kh) (H:Hp) (n:Nat) (x y:V):Prop:=∃d,bp n d/\bP K H d x/\bP K H d y
abbrev TwinA (K:Kh) (H:Hp) (n:Nat) (xs ys:List V):Prop:=∃ds,(∀d∈ds,bp n d)/\cJ K H ds xs/\cJ K H ds ys
def Twin.of {x:V} (h:HasD K H n x):Twin K H n x x:=by let#[d,l,z]:=h; show#[d,l,z,z]
def TwinA.nil :TwinA K H n [] []:=#[[],λd h=>(by cases h),(by unfold cJ; rfl),(by unfold cJ; rfl)]
def TwinA.cons {K:Kh} {H:Hp} {n:Nat} {x y:V} {xs ys:List V} (h:Twin K H n x y) (t:TwinA K H n xs ys):TwinA K H n (x::xs) (y::ys):=by
 let#[d,l,z1,z2]:=h;let#[ds,ls,zs1,zs2]:=t;show#[d::ds,λe he=>(HM.mp he).elim (λz=>z ▸ l) (ls e),?_,?_]
 . unfold cJ;show#[9,z1,zs1]
 . unfold cJ;show#[9,z2,zs2]
def TwinA.of {xs:List V} (h:HasA K H n xs):TwinA K H n xs xs:=by let#[ds,l,z]:=h; show#[ds,l,z,z]
def TwinA.at {K:Kh} {H:Hp} {n:Nat}:∀{xs ys:List V},xs.length=ys.length->(∀(i:Nat) x y,xs[i]?=⇑x->ys[i]?=⇑y->Twin K H n x y)->TwinA K H n xs ys
 | [],[],_,_=>.nil
 | x::xs,y::ys,e,h=>.cons (h 0 x y rfl rfl) (TwinA.at ↑e λi a b ha hb=>h (i+1) a b ↑ha ↑hb)
 | [],_::_,e,_=>by cases e
 | _::_,[],e,_=>by cases e
def Twin.tup {K:Kh} {H:Hp} {n:Nat} {a b:Kg} {xs ys:List V} (h1:aN K H a xs) (h2:aN K H b ys) (t:TwinA K H n xs ys):Twin K H (n+1) ↥a ↥b:=by
 let#[ds,ls,z1,z2]:=t;show#[.tuple ds,bp.tuple ls,?_,?_]
 . unfold bP;show#[a,xs,rfl,h1,z1]
 . unfold bP;show#[b,ys,rfl,h2,z2]
def Twin.lst {K:Kh} {H:Hp} {n:Nat} {a b:Kg} {xs ys:List V} (h1:aG K H a xs) (h2:aG K H b ys) (t:TwinA K H n xs ys):Twin K H (n+1) ↥a ↥b:=by
 let#[ds,ls,z1,z2]:=t;show#[.list ds,bp.list ls,?_,?_]
 . unfold bP;show#[a,xs,rfl,h1,z1]
 . unfold bP;show#[b,ys,rfl,h2,z2]
def Twin.eq {Q:VK} {x y:V} (h:Twin K H n x y) (hn:n<=64) (q:Q (.bl true) H):oh K x y H Q:=by let#[d,l,z1,z2]:=h; exact CS hn l z1 z2 q
def Ec {nk:Str} {fa tr qC:Kg} {fo:V} {ps:List Str} (rr:List RR) (h1:aN K H fa [.str nk,fo,↥qC,↥tr]) (h2:aN K H tr (rr.map λx=>V.ref x.w.r)) (h3:∀x∈rr,oS K H x) (h4:aN K H qC (ps.map V.str)) (h5:∀s∈ps,K12.Nm s) (h6:ps.length<=100) (h7:rr.length<=100) (wf:K13.Wf (rr.map λx=>x.w.k)) :
   F2.FnAt K H #[nk,fo,fa,qC,tr,ps,rr.map (·.w),rr.map (·.d)]:=by
 show#[h1,h4,by show aN K H tr ((rr.map (·.w)).map λw=>V.ref w.r); rw[IG]; exact h2,λw hw=>?_,#[#[16,h1,h4,?_],λd hd=>?_,h5,h6,by show(rr.map (·.d)).length<=100; rw[Go]; exact h7],by show K13.Wf ((rr.map (·.w)).map (·.k)); rw[IG]; exact wf,by show(rr.map (·.w)).length<=100; rw[Go]; exact h7]
 . let#[x,hx,rfl]:=HX.mp hw;exact(h3 x hx).2.1
 . show aN K H tr ((rr.map (·.d)).map λd=>V.ref d.r);rw[IG];have:(rr.map λx=>V.ref x.w.r)=rr.map ((λd=>V.ref d.r) ∘ (·.d)):=List.map_congr_left λx hx=>by show V.ref x.w.r=V.ref x.d.r;rw[(h3 x hx).1]
   rw[<- this];exact h2
 . let#[x,hx,rfl]:=HX.mp hd;exact(h3 x hx).2.2
end Bg
namespace K55
open PySem L2 Gx Fl Sk
abbrev TS (H H':Hp):Prop:=∀b xs,Rd H b (.tup xs)->Rd H' b (.tup xs)
def TS.tup {K:Kh} {H H':Hp} {a:Kg} {xs:List V} (e:TS H H') (h:aN K H a xs):aN K H' a xs:=h.imp (e a xs) id
def TS.lst {H:Hp} {a:Kg} {xs:List V} {o:HO} (h:H a=⇑(.lst xs)):TS H (upd H a o):=λb ys q=>by
 have:b≠a:=by rintro rfl;rcases q with q|⟨_,q⟩ <;> (rw[h] at q; cases q)
 rcases q with q|⟨o',q⟩
 . exact .inl (by rw[aJ this]; exact q)
 . exact .inr #[o',by rw[aJ this]; exact q]
end K55
namespace K55
open PySem L2 Gx Fl Sk K41 Bg
def F1 {K:Kh} {H H':Hp} {xs as:List V} {g:Kd Str} (e:TS H H') (h:K12.RowS K H xs g as):K12.RowS K H' xs g as:=by cases h <;> first|(constructor; done)|(constructor; exact e<*(by assumption))
def fnAt_ts {K:Kh} {H H':Hp} {f:F2.Fd} (h:F2.FnAt K H f) (e:TS H H'):F2.FnAt K H' f :=
 #[e<*h.fn,e<*h.pr,e<*h.rw_,λw hw=>by let#[rest,h1,h2]:=h.rk w hw; show#[rest,e<*h1,h2],
   #[by let#[n,b,p,r,h1,h2,h3]:=h.fu.fn; show#[n,b,p,r,e<*h1,e<*h2,e<*h3],λd hd=>let z:=h.fu.rows d hd; #[by let#[xs,h1,h2]:=z.row; show#[xs,e<*h1,F1 e h2],z.ats,z.len,z.nm],h.fu.pn,h.fu.pl,h.fu.dl],h.wf,h.len]
end K55
namespace Wk
open PySem L2 Gx Fl K41 Bg
inductive RG where
 | out (a:V)|copy (x:Str) (a:V)|op (x s:Str) (a b:V)|back (a:V)|new (x:Str)|get (x:Str) (a:V) (f:Str)|put (a:V) (f:Str) (b:V)|call (x g:Str) (p:Addr) (as:List V)|ifs (a:V)|whl (a:V)
abbrev RG.items:RG->List V
 | .out a=>[.str "out",a]
 | .copy x a=>[.str "copy",.str x,a]
 | .op x s a b=>[.str "op",.str x,.str s,a,b]
 | .back a=>[.str "back",a]
 | .new x=>[.str "new",.str x]
 | .get x a f=>[.str "get",.str x,a,.str f]
 | .put a f b=>[.str "put",a,.str f,b]
 | .call x g p _=>[.str "call",.str x,.str g,↥p]
 | .ifs a=>[.str "if",a]
 | .whl a=>[.str "while",a]
abbrev RG.kind:RG->Str
 | .out _=>"out"
 | .copy _ _=>"copy"
 | .op _ _ _ _=>"op"
 | .back _=>"back"
 | .new _=>"new"
 | .get _ _ _=>"get"
 | .put _ _ _=>"put"
 | .call _ _ _ _=>"call"
 | .ifs _=>"if"
 | .whl _=>"while"
abbrev RG.gx:RG->Kd Str
 | .copy x _=>⇑x
 | .op x _ _ _=>⇑x
 | .new x=>⇑x
 | .get x _ _=>⇑x
 | .call x _ _ _=>⇑x
 | _=>none
abbrev RG.as:RG->List V
 | .out a=>[a]
 | .copy _ a=>[a]
 | .op _ _ a b=>[a,b]
 | .back a=>[a]
 | .new _=>[]
 | .get _ a _=>[a]
 | .put a _ b=>[a,b]
 | .call _ _ _ as=>as
 | .ifs a=>[a]
 | .whl a=>[a]
abbrev RG.cl:RG->Str
 | .call _ g _ _=>g
 | _=>""
abbrev RG.rr (r:Kg) (rg:RG):RR:=#[#[r,rg.kind,rg.cl],#[r,(0),(0),rg.gx,rg.as]]
abbrev RG.parts (rg:RG):List V:=(rg.gx.toList.map V.str)++rg.as
structure RGAt (K:W.Frag) (H:Hp) (r:Addr) (rg:RG):Prop where
 it:aN K H r rg.items
 ar:∀x g p as,rg=.call x g p as->aN K H p as
structure RG.Ok (rg:RG):Prop where
 at_:∀v∈rg.parts,K12.Atom v
 sg:∀x s a b,rg=.op x s a b->PyData.strOk s=true
 fl:(∀x a f,rg=.get x a f->PyData.strOk f=true)/\∀a f b,rg=.put a f b->PyData.strOk f=true
 cl:∀x g p as,rg=.call x g p as->PyData.strOk g=true/\as.length<=10
variable {x:Str}
def gat (h:K12.Atom (.str x)):K12.Nm x:=by
 rcases h with⟨s,e,h⟩|⟨i,e⟩
 . cases e; exact h
 . cases e
def yS {K:Kh} {H:Hp} {r:Kg} {rg:RG} (h:RGAt K H r rg):K12.RowS K H rg.items rg.gx rg.as:=by
 cases rg with
 | out a=>exact .out a
 | copy x a=>exact .copy x a
 | op x s a b=>exact .op x s a b
 | back a=>exact .back a
 | new x=>exact .new x
 | get x a f=>exact .get x a f
 | put a f b=>exact .put a f b
 | call x g p as=>exact .call x g p as (h.ar x g p as rfl)
 | ifs a=>exact .ifs a
 | whl a=>exact .whl a
def as_len {rg:RG} (ok:rg.Ok):rg.as.length<=10:=by
 cases rg with
 | call x g p as=>exact(ok.cl x g p as rfl).2
 | _=>simp [RG.as]
def rg_ok {K:Kh} {H:Hp} {r:Kg} {rg:RG} (h:RGAt K H r rg) (ok:rg.Ok):oS K H (rg.rr r):=by
 show#[rfl,?_,#[#[_,h.it,yS h],λv hv=>ok.at_ v (HS _ hv),as_len ok,λx hx=>?_]]
 . have ne:∀k∈([("out":Str),"copy","op","back","new","get","put","if","while"]:List Str),¬ k="call":=by decide +kernel
   cases rg with
   | call x g p as=>show#[_,h.it,λ_=>#[9]]
   | out a=>show#[_,h.it,λz=>absurd z (ne "out" 0xA)]
   | copy x a=>show#[_,h.it,λz=>absurd z (ne "copy" 0xA)]
   | op x s a b=>show#[_,h.it,λz=>absurd z (ne "op" 0xA)]
   | back a=>show#[_,h.it,λz=>absurd z (ne "back" 0xA)]
   | new x=>show#[_,h.it,λz=>absurd z (ne "new" 0xA)]
   | get x a f=>show#[_,h.it,λz=>absurd z (ne "get" 0xA)]
   | put a f b=>show#[_,h.it,λz=>absurd z (ne "put" 0xA)]
   | ifs a=>show#[_,h.it,λz=>absurd z (ne "if" 0xA)]
   | whl a=>show#[_,h.it,λz=>absurd z (ne "while" 0xA)]
 . have hx:rg.gx=⇑x:=hx;refine gat (ok.at_ (.str x) (Hx _ ?_));rw[hx];simp
def zo {rg:RG} (h1:∀a,rg≠.ifs a) (h2:∀a,rg≠.whl a):¬ K13.isO rg.kind=true/\¬ K13.isE rg.kind=true/\¬ rg.kind="end"/\¬ rg.kind="else":=by
 have key:∀k∈([("out":Str),"copy","op","back","new","get","put","call"]:List Str),¬ K13.isO k=true/\¬ K13.isE k=true/\¬ k="end"/\¬ k="else":=by decide +kernel
 cases rg with
 | ifs a=>exact absurd rfl (h1 a)
 | whl a=>exact absurd rfl (h2 a)
 | _=>exact key _ (by simp [RG.kind])
def C0 {rg:RG} (h:∀a,rg≠.back a):¬ rg.kind="back":=by
 have key:∀k∈([("out":Str),"copy","op","new","get","put","call","if","while"]:List Str),¬ k="back":=by decide +kernel
 cases rg with
 | back a=>exact absurd rfl (h a)
 | _=>exact key _ (by simp [RG.kind])
def ny {s:Str} {l:List V}:s∈K12.strsOf l <-> V.str s∈l:=by
 unfold K12.strsOf;rw[K6];constructor
 . rintro ⟨v,hv,e⟩;cases v with
   | str x=>cases e; exact hv
   | _=>cases e
 . intro h;show#[_,h,rfl]
def Ad {ss:List Str}:x∈K12.onceL ss <-> x∈ss:=#[K12.onceL_sub ss x,λh=>K12.fold_has ss [] x h]
structure Cn where
 kv:List (List aE×V)
 rc:Int
abbrev fk (i:Int) (f:Str):List aE:=[Sum.inl i,Sum.inr f]
abbrev j7 (cn:Cn) (i:Int) (f:Str):V:=(aZ cn.kv (fk i f)).getD (.int 0)
abbrev RG.gives (kvs:List (aE×V)) (cn:Cn):RG->Kd (Str×V)
 | .copy x a=>(av kvs a).map λv=>(x,v)
 | .op x s a b=>match av kvs a,av kvs b with
   | some (.int i),⇑(.int j)=>if 0<=i/\0<=j/\i<K21.wide/\j<K21.wide then ⇑(x,.int (K21.valOf s i j)) else none
   | _,_=>none
 | .get x a f=>match av kvs a with
   | some (.int i)=>⇑(x,j7 cn i f)
   | _=>none
 | _=>none
variable {cn:Cn} {v:V}
def uG {kvs:List (aE×V)} {y s:Str}{a b:V}(h:(RG.op y s a b).gives kvs cn=⇑(x,v)):x=y/\∃i j,av kvs a=⇑(.int i)/\av kvs b=⇑(.int j)/\(0<=i/\0<=j/\i<K21.wide/\j<K21.wide)/\v=.int (K21.valOf s i j):=by
 dsimp only[RG.gives] at h;split at h
 . rename_i i j ea eb
   split at h
   . rename_i hb
     cases h;show#[rfl,i,j,ea,eb,hb,rfl]
   . cases h
 . cases h
def qJ {kvs:List (aE×V)} {y:Str}{a:V}(h:(RG.copy y a).gives kvs cn=⇑(x,v)):x=y/\av kvs a=⇑v:=by have h:(av kvs a).map (λv=>(y,v))=⇑(x,v):=h;rw[Ix] at h;let#[u,hu,hz]:=h;cases hz;show#[rfl,hu]
def sR {kvs:List (aE×V)} {y f:Str}{a:V}(h:(RG.get y a f).gives kvs cn=⇑(x,v)):x=y/\∃i,av kvs a=⇑(.int i)/\v=j7 cn i f:=by
 dsimp only[RG.gives] at h;split at h
 . rename_i i e
   cases h;show#[rfl,i,e,rfl]
 . cases h
def ou {kvs:List (aE×V)} {rg:RG} (h:rg.gives kvs cn=⇑(x,v)):rg.items[1]?=⇑(.str x):=by
 cases rg with
 | copy y a=>rw[(qJ h).1]; rfl
 | op y s a b=>rw[(uG h).1]; rfl
 | get y a f=>rw[(sR h).1]; rfl
 | _=>cases h
section
variable {cW cF:Kg} {Hb H H2:Hp} {w:Wr} {fs:List Fm} {oc:V} {sent:List V} {co:HO} {rc:Int}
def WAt.cont {kv kv':List (List aE×V)} (h:WAt cW cF Hb H w fs oc sent (.dT kv) rc):WAt cW cF Hb (upd H w.ct (.dT kv')) w fs oc sent (.dT kv') rc :=
 #[h.b.upd h.fct,by rw[aJ h.cs.2.2.symm]; exact h.o,by rw[aJ h.cs.1.symm]; exact h.st,by rw[aJ h.cs.2.1.symm]; exact h.sd,aI,λf hf=>#[by rw[aJ (h.nf f hf).2]; exact(h.fr f hf).o,by rw[aJ (h.nc f hf)]; exact(h.fr f hf).n],h.na,h.nn,h.ne,h.nc,h.cs,h.nf,h.fa,h.fst,h.fsd,h.fct,h.ff]
def WAt.recs {r:Int} (h:WAt cW cF Hb H w fs oc sent co rc):WAt cW cF Hb (upd H w.a (.ins cW w.dx (wF w oc r))) w fs oc sent co r :=
 #[h.b.upd h.fa,aI,by rw[aJ (cU h.st h.o 0x6)]; exact h.st,by rw[aJ (cU h.sd h.o 0x6)]; exact h.sd,by rw[aJ h.cs.2.2]; exact h.ct,λf hf=>#[by rw[aJ (h.nf f hf).1]; exact(h.fr f hf).o,by rw[aJ (cU (h.fr f hf).n h.o 0x6)]; exact(h.fr f hf).n],h.na,h.nn,h.ne,h.nc,h.cs,h.nf,h.fa,h.fst,h.fsd,h.fct,h.ff]
end
end Wk
namespace L2
open PySem PySem.Spec PyProof.Rows
abbrev zL (t:TS):TS:=λD σ H=>∃d kvs,H d=⇑(.dK kvs)/\t { D with nx:=λσ' H'=>∃o,H' d=⇑(.frz o (.dK kvs))/\D.nx σ' (upd H' d (.dK kvs)) } σ H
def DK {X:Cx} {st:Stmt} {t:TS} (h:PS X st t):PS X st (zL t):=DO h
end L2
namespace Wk
open PySem L2 Gx Fl K41 Bg
section
variable {cW cF:Kg} {Hb H H2:Hp} {w:Wr} {fs:List Fm} {oc:V} {sent:List V} {co:HO} {rc:Int}
def n6 {α β:Type} (g:α->β) {l:List α} {i:Nat} {x y:α} (h:l[i]?=⇑x) (e:g y=g x):(l.set i y).map g=l.map g:=by
 refine KI λj=>?_;rw[HV,HV,List.getElem?_set];by_cases hj:i=j
 . subst hj;rw[HI rfl,HI (Gq.mp h).1,h];exact HY some e
 . rw[Gu hj]
end
end Wk
namespace K14
open PySem PySem.NumText L2 K11
def str_ext {a b:Str} (h:a.cps.toList=b.cps.toList):a=b:=by cases a;cases b;have:=Array.toList_inj.mp h;simp only at this;rw[this]
end K14
namespace K14
open PySem PyProof.Rows L2 K11 Gx
def let_at {z:Int} (h0:0<=z) (h1:z<26):bD ("abcdefghijklmnopqrstuvwxyz":Str).cps.toList z=⇑(97+z.toNat):=by
 let#[n,rfl]:=J7 h0;have g:∀n<26,("abcdefghijklmnopqrstuvwxyz":Str).cps.toList[n]?=⇑(97+n):=by decide +kernel
 exact dO (g n ∅)
end K14
namespace Wk
open PySem L2 Gx
def nodup_range {α:Type} {m:Nat} {f:Nat->α} (h:∀j k,j<m->k<m->f j=f k->j=k):((List.range m).map f).Nodup:=by rw[List.nodup_iff_pairwise_ne,List.pairwise_map];refine List.Pairwise.imp_of_mem (R:=λa b=>a≠b) (λ{a b} ha hb hab z=>hab (h a b (K2.mp ha) (K2.mp hb) z)) List.nodup_range
end Wk
namespace Wk
open PySem L2 Gx Fl
def rT {n:Str}:∀(ns:List Str) (d:List (aE×V)),(n∈ns\/aZ d 0xC=⇑(.int 0))->aZ ((ns.map λn=>(0xC,V.int 0)).foldl (λacc kv=>aQ acc kv.1 kv.2) d) 0xC=⇑(.int 0)
 | [],d,h=>h.elim (λz=>by cases z) id
 | m::ns,d,h=>by
   rw[Hn,Hv];refine rT ns _ ?_;rw[dj];by_cases z:n=m
   . exact .inr (by rw[z,HI rfl])
   . rcases h with h|h
     . rcases HM.mp h with h|h
       . exact absurd h z
       . exact .inl h
     . exact .inr (by rw[Gu (by intro y; exact z (Sum.inr.inj y))]; exact h)
end Wk
namespace L2
open PySem PySem.Spec PyProof.Rows
def nw {H X:Hp} {a:Kg} {o:HO} (e:upd H a o=X) (h:H a=none):aB H X/\X a=⇑o:=by subst e; show#[aB.new h,aI]
def iN {c A B:Prop} [Decidable c] (h:B) (hc:¬ c:=by decide +kernel):if c then A else B:=ai hc h
def iP {c A B:Prop} [Decidable c] (h:A) (hc:c:=by decide +kernel):if c then A else B:=ao hc h
def jN {c A B:Prop} [Decidable c] (h:B) (hc:¬ c:=by decide):if c then A else B:=ai hc h
end L2
namespace L2
open PySem PySem.Spec PyProof.Rows Gx
abbrev EG:R2:=λx y H Q=>∃(c:Nat) (k:Int),x=.str #[(List.toArray [c])]/\y=.int k/\0<=k/\k<=1000/\Q (.str #[(List.replicate k.toNat c).toArray]) H
def pw {X:Cx}:bU X (binaryOp .Mult) EG:=by
 intro pins s σ H x y v u Q I rx ry h;let#[c,k,rfl,rfl,k0,k1,q]:=h;by_cases k2:1<=k
 . exact AA _ _ _ _ _ _ _ _ _ I rx ry #[c,k,7,k2,k1,q]
 . let#[t,rfl]:=rx;let#[tu,rfl]:=ry;refine PySem.P.mul_str ?_ (λz _=>absurd ∅ z) (λz _=>absurd ∅ z) ?_
   . rw[Hg ∅,Hg ∅]; rfl
   . rw[HI ∅];have e:k.toNat=0:=by lia
     rw[e] at q;show#[?_,?_]
     . show _<=_;exact Hj _
     . show#[.str _,H,I.tok _,#[5],q]
abbrev tj:Int->Int->Prop:=λi j=>0<=j/\j<=1000/\i.natAbs<2 ^ 1000
def kM {X:Cx}:bU X (binaryOp .Pow) (rI tj λi j=>.int (i ^ j.toNat)):=j8 λi j _ _ _ _ _ hc q=>by
 let#[h0,h1,h2]:=hc;refine pow_int h0 ?_ q;have hb:=intBits_le h2;have h3:(Builtin.Int.intBits i:Int) * j<=1000 * j:=Int.mul_le_mul_of_nonneg_right ∅ h0;have:(1000:Int) * j<=2 ^ 27:=by lia
 lia
end L2
namespace PySem
open Sem (wp)
@[reducible] def IsTri (h:Heap) (T:Addr) (a b c:Value):Prop:=h.get? T=some { cls:=.type "tuple",data:=.seq (List.toArray [a,b,c]) }
variable {xs:Array Ke} {n l1:Nat}
section
variable {prog:Program} {w:World} {A:Around} {E:Ke->Kf->Prop} {s:Kf}
def nM {T:Kg} {a b c x:Ke} {k:Nat} {Q:Unit->Kf->Prop} (h:IsTri s.heap T a b c)
   (hQ:∀h',h'.get? T=some { cls:=.type "tuple",data:=.seq ((List.toArray [a,b,c]).setIfInBounds k x) }->Heap.SameBut T s.heap h'->Q () { s with heap:=h' }) :
   wpAny (model prog w) A (updateSeq T λxs=>xs.setIfInBounds k x) Q E s :=
 wpAny_updateSeq h rfl (hQ _ (by have e:=Jp (Obj.mapSeq λxs=>xs.setIfInBounds k x) h rfl; rw[e]; simp [Obj.mapSeq]) (Heap.SameBut.update _ _ _)) (by show 3<=sizeLine; decide) (by rw[Array.size_setIfInBounds]; show 3<=sizeLine+1; decide)
def bH {a b:Nat} (h:a<b\/b<a):a≠b:=by lia
def d8 {h h':Heap} {it l c:Kg} {k:Nat} (p:h.IsListIter it l k) (e:Heap.ExtBut c h h') (n:it≠c):h'.IsListIter it l k:=by let#[o,ho,r]:=p; show#[o,e _ _ n ho,r]
def fG {h h':Heap} {l c:Kg} (p:h.IsList l xs) (e:Heap.ExtBut c h h') (n:l≠c):h'.IsList l xs:=by let#[o,ho,r]:=p; show#[o,e _ _ n ho,r]
def Ed {l2 l3:Nat}{k:Nat} {ys zs:Array Ke}{x y z a b c:Ke} {Q:Ke->Kf->Prop} (d1:l1<n) (d2:l2<n) (d3:l3<n)
   (zZ:IsZip s.heap (n+5) (n+3) (n+4) .none) (zI:IsTri s.heap (n+3) ↥n ↥(n+1) ↥(n+2)) (zO:IsTri s.heap (n+4) a b c)
   (p1:s.heap.IsListIter n l1 k) (p2:s.heap.IsListIter (n+1) l2 k) (p3:s.heap.IsListIter (n+2) l3 k) (q1:s.heap.IsList l1 xs) (q2:s.heap.IsList l2 ys) (q3:s.heap.IsList l3 zs) (hx:xs[k]?=⇑x) (hy:ys[k]?=⇑y) (hz:zs[k]?=⇑z)
   (hQ:∀h',IsZip h' (n+5) (n+3) (n+4) (rawInt s.heap.objs.size)->IsTri h' (n+4) x y z->h'.IsListIter n l1 (k+1)->h'.IsListIter (n+1) l2 (k+1)->h'.IsListIter (n+2) l3 (k+1)->IsTri h' s.heap.objs.size x y z ->
     (∀c o,((c:Nat)<n\/(c:Nat)=n+3\/n+5<(c:Nat))->s.heap.get? c=⇑o->h'.get? c=⇑o)->Q ↥s.heap.objs.size { s with heap:=h' }) :
   wpAny (model prog w) A (Builtin.«zip.__next__» #[[↥(n+5)],[]]) (λfin s'=>∃v,fin=.done (.ret v)/\Q v s') E s:=by
 show wpAny _ _ (field ↥(n+5) 2 >>= _) _ _ _;refine Gp (IA zZ rfl (x:=.bool false) rfl ?_);show wpAny _ _ (field ↥(n+5) 3 >>= _) _ _ _;refine Gp (IA zZ rfl (x:=↥(n+3)) rfl ?_);refine Gp (IN zI rfl ?_);show wpAny _ _ (Builtin.SmallTypes.ownedTupleIsFree ↥(n+5) >>= _) _ _ _;refine Gp ?_;unfold Builtin.SmallTypes.ownedTupleIsFree;refine Gp (IA zZ rfl (x:=.none) rfl (HL ?_));simp only[if_true];refine Gp (JT ?_);refine Gp (IA zZ rfl (x:=↥(n+4)) rfl ?_);refine Gp (IL zZ 0xA λh1 z1 s1=>?_)
 replace z1:IsZip h1 (n+5) (n+3) (n+4) .ellipsis:=z1
 have e1:=s1.extBut;refine Gp ?_;simp only[Ji,Jv,JI,K5];refine Gp (Gp (J2 ?_));show wpAny _ _ (Builtin.SmallTypes.nextOf ↥n >>= _) _ _ _;refine Gp (JA (d8 p1 e1 (bH ∅)) (fG q1 e1 (bH ∅)) hx λh2 i2 s2=>HL ?_);have e2:=s2.extBut;have o2:IsTri h2 (n+4) a b c:=e2 _ _ (bH ∅) (e1 _ _ (bH ∅) zO);refine Gp (IN o2 rfl ?_);refine Gp (nM o2 λh3 o3 s3=>?_)
 replace o3:IsTri h3 (n+4) x b c:=o3
 have e3:=s3.extBut;refine Gp (Jd (HL ?_));refine Gp (Gp (J2 ?_));show wpAny _ _ (Builtin.SmallTypes.nextOf ↥(n+1) >>= _) _ _ _;refine Gp (JA (d8 (d8 (d8 p2 e1 (bH ∅)) e2 (bH ∅)) e3 (bH ∅)) (fG (fG (fG q2 e1 (bH ∅)) e2 (bH ∅)) e3 (bH ∅)) hy λh4 i4 s4=>HL ?_);have e4:=s4.extBut;have o4:IsTri h4 (n+4) x b c:=e4 _ _ (bH ∅) o3;refine Gp (IN o4 rfl ?_);refine Gp (nM o4 λh5 o5 s5=>?_)
 replace o5:IsTri h5 (n+4) x y c:=o5
 have e5:=s5.extBut;refine Gp (Jd (HL ?_));refine Gp (Gp (J2 ?_));show wpAny _ _ (Builtin.SmallTypes.nextOf ↥(n+2) >>= _) _ _ _;refine Gp (JA (d8 (d8 (d8 (d8 (d8 p3 e1 (bH ∅)) e2 (bH ∅)) e3 (bH ∅)) e4 (bH ∅)) e5 (bH ∅)) (fG (fG (fG (fG (fG q3 e1 (bH ∅)) e2 (bH ∅)) e3 (bH ∅)) e4 (bH ∅)) e5 (bH ∅)) hz λh6 i6 s6=>HL ?_);have e6:=s6.extBut;have o6:IsTri h6 (n+4) x y c:=e6 _ _ (bH ∅) o5;refine Gp (IN o6 rfl ?_);refine Gp (nM o6 λh7 o7 s7=>?_)
 replace o7:IsTri h7 (n+4) x y z:=o7
 have e7:=s7.extBut;refine Gp (Jd (HL (HL ?_)));refine Gp (IN o7 rfl ?_);refine Gp (wpAny_newTuple ?_);have hsz:h7.objs.size=s.heap.objs.size:=by rw[s7.1,s6.1,s5.1,s4.1,s3.1,s2.1,s1.1]
 have hk:∀c o,c≠n->c≠n+1->c≠n+2->c≠n+4->c≠n+5->s.heap.get? c=⇑o->h7.get? c=⇑o:=λc o c0 c1 c2 c4 c5 e=>e7 _ _ c4 (e6 _ _ c2 (e5 _ _ c4 (e4 _ _ c1 (e3 _ _ c4 (e2 _ _ c0 (e1 _ _ c5 e))))));have z7:IsZip h7 (n+5) (n+3) (n+4) .ellipsis:=e7 _ _ (bH ∅) (e6 _ _ (bH ∅) (e5 _ _ (bH ∅) (e4 _ _ (bH ∅) (e3 _ _ (bH ∅) (e2 _ _ (bH ∅) z1)))));have j1:h7.IsListIter n l1 (k+1):=d8 (d8 (d8 (d8 (d8 i2 e3 (bH ∅)) e4 (bH ∅)) e5 (bH ∅)) e6 (bH ∅)) e7 (bH ∅);have j2:h7.IsListIter (n+1) l2 (k+1):=d8 (d8 (d8 i4 e5 (bH ∅)) e6 (bH ∅)) e7 (bH ∅);have j3:h7.IsListIter (n+2) l3 (k+1):=d8 i6 e7 (bH ∅);have hzlt:n+5<h7.objs.size:=HU z7;show wpAny _ _ (Builtin.SmallTypes.ownedTupleHandOut ↥(n+5) ↥h7.objs.size >>= _) _ _ _;refine Gp ?_;unfold Builtin.SmallTypes.ownedTupleHandOut;have z8:IsZip (h7.push { cls:=.type "tuple",data:=.seq (List.toArray [x,y,z]) }) (n+5) (n+3) (n+4) .ellipsis:=Gr _ z7;refine Gp (IL z8 0xA λh9 z9 s9=>?_)
 replace z9:IsZip h9 (n+5) (n+3) (n+4) (rawInt h7.objs.size):=z9
 refine IL z9 0xA λh10 z10 s10=>?_
 replace z10:IsZip h10 (n+5) (n+3) (n+4) (rawInt h7.objs.size):=z10
 have up:∀c o,c≠n+5->h7.get? c=⇑o->h10.get? c=⇑o:=λc o c1 e=>s10.extBut _ _ c1 (s9.extBut _ _ c1 (Gr _ e));have T10:IsTri h10 h7.objs.size x y z:=s10.extBut _ _ (Ij hzlt) (s9.extBut _ _ (Ij hzlt) (HR _ rfl));rw[hsz] at z10 T10;refine HL #[5,?_];show Q ↥h7.objs.size _;rw[hsz];have lit:∀i l,i≠n+5->h7.IsListIter i l (k+1)->h10.IsListIter i l (k+1):=λi l hi z216_=>by let#[o,ho,r]:=z216_; show#[o,up _ _ hi ho,r]
 exact hQ h10 z10 (up _ _ (bH ∅) o7) (lit _ _ (bH ∅) j1) (lit _ _ (bH ∅) j2) (lit _ _ (bH ∅) j3) T10 λc o hc e=>up c o (bH ∅) (hk c o (bH ∅) (bH ∅) (bH ∅) (bH ∅) (bH ∅) e)
def zv {l2 l3:Nat}{k:Nat} {Q:Fin->Kf->Prop} (hh:A.handled=none) (d1:l1<n)
   (zZ:IsZip s.heap (n+5) (n+3) (n+4) .none) (zI:IsTri s.heap (n+3) ↥n ↥(n+1) ↥(n+2))
   (p1:s.heap.IsListIter n l1 k) (q1:s.heap.IsList l1 xs) (hx:xs[k]?=none)
   (hE:∀h' e,(∀c o,c≠n->c≠n+5->s.heap.get? c=⇑o->h'.get? c=⇑o)->(∃o,h'.get? e=⇑o/\o.cls=.type "StopIteration")->E ↥e { s with heap:=h' }) :
   wpAny (model prog w) A (Builtin.«zip.__next__» #[[↥(n+5)],[]]) Q E s:=by
 show wpAny _ _ (field ↥(n+5) 2 >>= _) _ _ _;refine Gp (IA zZ rfl (x:=.bool false) rfl ?_);show wpAny _ _ (field ↥(n+5) 3 >>= _) _ _ _;refine Gp (IA zZ rfl (x:=↥(n+3)) rfl ?_);refine Gp (IN zI rfl ?_);show wpAny _ _ (Builtin.SmallTypes.ownedTupleIsFree ↥(n+5) >>= _) _ _ _;refine Gp ?_;unfold Builtin.SmallTypes.ownedTupleIsFree;refine Gp (IA zZ rfl (x:=.none) rfl (HL ?_));simp only[if_true];refine Gp (JT ?_);refine Gp (IA zZ rfl (x:=↥(n+4)) rfl ?_);refine Gp (IL zZ 0xA λh1 z1 s1=>?_)
 replace z1:IsZip h1 (n+5) (n+3) (n+4) .ellipsis:=z1
 have e1:=s1.extBut;refine Gp ?_;simp only[Ji,Jv,JI,K5];refine Gp (Gp (J2 ?_));show wpAny _ _ (Builtin.SmallTypes.nextOf ↥n >>= _) _ _ _;refine Gp (wpAny_nextOf_list_end hh (d8 p1 e1 (bH ∅)) (fG q1 e1 (bH ∅)) hx λh2 e s2 he=>?_);let#[oe,hoe,hce]:=he;have z2:IsZip h2 (n+5) (n+3) (n+4) .ellipsis:=s2 _ _ (bH ∅) z1;have hez:e≠n+5:=λx=>by subst x; rw[z2] at hoe; cases hoe; simp at hce
 exact IL z2 0xA λh3 _ s3=>hE h3 e (λc o c0 c5 x=>s3.extBut _ _ c5 (s2 _ _ c0 (e1 _ _ c5 x))) #[oe,s3.extBut _ _ hez hoe,hce]
def FZ:∀(a b c:Ke),checkTypeCall "zip" { pos:=[a,b,c] }=pure ():=λa b c=>by kernel_rfl
def D2:∀(a b c:Ke),checkBuiltinCall "zip.__new__" { pos:=[Value.type "zip",a,b,c] }=pure ():=λa b c=>by kernel_rfl
def F8:∀(a b c d:Ke),argsOk "object.__init__" { pos:=[a,b,c,d] }:=λa b c d=>by kernel_rfl
abbrev cY (l:Kg):Obj:={ cls:=.type "list_iterator",data:=.fields (List.toArray [↥l,.int 0 0]) }
def zR (l1 l2 l3:Kg) (xs ys zs:Array Ke) :
   Meets (Builtin.«zip.__new__» #[[.type "zip",↥l1,↥l2,↥l3],[]]) (λ_ R s=>s.heap.IsList l1 xs/\s.heap.IsList l2 ys/\s.heap.IsList l3 zs /\
     R (.ok (.ret ↥(((((s.heap.push (cY l1)).push (cY l2)).push (cY l3)).push { cls:=.type "tuple",data:=.seq (List.toArray [↥s.heap.objs.size,↥(s.heap.push (cY l1)).objs.size,↥((s.heap.push (cY l1)).push (cY l2)).objs.size]) }).push { cls:=.type "tuple",data:=.seq (List.toArray [.none,.none,.none]) }).objs.size))
       { s with heap:=((((((s.heap.push (cY l1)).push (cY l2)).push (cY l3)).push { cls:=.type "tuple",data:=.seq (List.toArray [↥s.heap.objs.size,↥(s.heap.push (cY l1)).objs.size,↥((s.heap.push (cY l1)).push (cY l2)).objs.size]) }).push { cls:=.type "tuple",data:=.seq (List.toArray [.none,.none,.none]) }).push
         { cls:=.type "zip",data:=.fields (List.toArray [.none,.bool false,.bool false,↥(((s.heap.push (cY l1)).push (cY l2)).push (cY l3)).objs.size,↥((((s.heap.push (cY l1)).push (cY l2)).push (cY l3)).push { cls:=.type "tuple",data:=.seq (List.toArray [↥s.heap.objs.size,↥(s.heap.push (cY l1)).objs.size,↥((s.heap.push (cY l1)).push (cY l2)).objs.size]) }).objs.size]) }) }) :=
 .of_wp λprog w A R s h=>by
   let#[hp,g,d,tk,os]:=s;let#[q1,q2,q3,h]:=h;have hsub:=sub_zip;have at':∀{h:Heap} {l:Kg} {xs:Array Ke} (o:Obj),h.IsList l xs->(h.push o).IsList l xs:=λo p=>by let#[o',ho,r]:=p; show#[o',Gr _ ho,r]
   have L2:Heap.IsList (Shared.heap ⟨hp.push { cls:=.type "list_iterator",data:=.fields (List.toArray [↥l1,.int 0 0]) },g,d,tk,os⟩) l2 ys:=at' _ q2;have L3:Heap.IsList (Shared.heap ⟨(hp.push { cls:=.type "list_iterator",data:=.fields (List.toArray [↥l1,.int 0 0]) }).push { cls:=.type "list_iterator",data:=.fields (List.toArray [↥l2,.int 0 0]) },g,d,tk,os⟩) l3 zs:=at' _ (at' _ q3)
   wp_walk using IV q1,IV L2,IV L3
   show#[5,h]
def yQ {l1 l2 l3:Kg} {ys zs:Array Ke}{Q:Ke->Kf->Prop} (q1:s.heap.IsList l1 xs) (q2:s.heap.IsList l2 ys) (q3:s.heap.IsList l3 zs)
   (h:∀h' (n:Nat),n=s.heap.objs.size->IsZip h' (n+5) (n+3) (n+4) .none->IsTri h' (n+3) ↥n ↥(n+1) ↥(n+2)->IsTri h' (n+4) .none .none .none->h'.IsListIter n l1 0->h'.IsListIter (n+1) l2 0->h'.IsListIter (n+2) l3 0 ->
     (∀c o,s.heap.get? c=⇑o->h'.get? c=⇑o)->Q ↥(n+5) { s with heap:=h' }) :
   wpAny (model prog w) A (call (.type "zip") [↥l1,↥l2,↥l3]) Q E s:=by
 refine callType_new F.called_zip #[] (FZ _ _ _) (D2 _ _ _) (λobj=>F8 obj _ _ _) F.entry_zip_new (zR l1 l2 l3 xs ys zs) #[q1,q2,q3,?_];generalize ho1:cY l1=o1;generalize ho2:cY l2=o2;generalize ho3:cY l3=o3;have y1:(s.heap.push o1).objs.size=s.heap.objs.size+1:=IM ..;have y2:((s.heap.push o1).push o2).objs.size=s.heap.objs.size+2:=by rw[IM,y1]
 have y3:(((s.heap.push o1).push o2).push o3).objs.size=s.heap.objs.size+3:=by rw[IM,y2]
 rw[y1,y2,y3];generalize hT1:({ cls:=.type "tuple",data:=.seq (List.toArray [↥s.heap.objs.size,↥(s.heap.objs.size+1),↥(s.heap.objs.size+2)]) }:Obj)=t1;generalize hT2:({ cls:=.type "tuple",data:=.seq (List.toArray [.none,.none,.none]) }:Obj)=t2;have y4:((((s.heap.push o1).push o2).push o3).push t1).objs.size=s.heap.objs.size+4:=by rw[IM,y3]
 have y5:(((((s.heap.push o1).push o2).push o3).push t1).push t2).objs.size=s.heap.objs.size+5:=by rw[IM,y4]
 rw[y4,y5];generalize hZ:({ cls:=.type "zip",data:=.fields (List.toArray [.none,.bool false,.bool false,↥(s.heap.objs.size+3),↥(s.heap.objs.size+4)]) }:Obj)=tz;have g6:=HR (((((s.heap.push o1).push o2).push o3).push t1).push t2) (o:=tz) (by rw[<- hZ]; rfl);have g5:=Gr tz (HR ((((s.heap.push o1).push o2).push o3).push t1) (o:=t2) (by rw[<- hT2]; rfl));have g4:=Gr tz (Gr t2 (HR (((s.heap.push o1).push o2).push o3) (o:=t1) (by rw[<- hT1]; rfl)));have g3:=Gr tz (Gr t2 (Gr t1 (HR ((s.heap.push o1).push o2) (o:=o3) (by rw[<- ho3]; rfl))));have g2:=Gr tz (Gr t2 (Gr t1 (Gr o3 (HR (s.heap.push o1) (o:=o2) (by rw[<- ho2]; rfl)))));have g1:=Gr tz (Gr t2 (Gr t1 (Gr o3 (Gr o2 (HR s.heap (o:=o1) (by rw[<- ho1]; rfl))))));rw[y5] at g6;rw[y4] at g5;rw[y3] at g4;rw[y2] at g3;rw[y1] at g2;subst hZ hT1 hT2 ho1 ho2 ho3;show#[#[_,g6,rfl],h _ s.heap.objs.size rfl g6 g4 g5 #[_,g1,7] #[_,g2,7] #[_,g3,7] λc o x =>
   Gr _ (Gr _ (Gr _ (Gr _ (Gr _ (Gr _ x)))))]
def zV {l2 l3:Nat}{k:Nat} {ys zs:Array Ke}{x y z a b c:Ke} {Q:Kd Ke->Kf->Prop} (d1:l1<n) (d2:l2<n) (d3:l3<n)
   (zZ:IsZip s.heap (n+5) (n+3) (n+4) .none) (zI:IsTri s.heap (n+3) ↥n ↥(n+1) ↥(n+2)) (zO:IsTri s.heap (n+4) a b c)
   (p1:s.heap.IsListIter n l1 k) (p2:s.heap.IsListIter (n+1) l2 k) (p3:s.heap.IsListIter (n+2) l3 k) (q1:s.heap.IsList l1 xs) (q2:s.heap.IsList l2 ys) (q3:s.heap.IsList l3 zs) (hx:xs[k]?=⇑x) (hy:ys[k]?=⇑y) (hz:zs[k]?=⇑z)
   (hQ:∀h',IsZip h' (n+5) (n+3) (n+4) (rawInt s.heap.objs.size)->IsTri h' (n+4) x y z->h'.IsListIter n l1 (k+1)->h'.IsListIter (n+1) l2 (k+1)->h'.IsListIter (n+2) l3 (k+1)->IsTri h' s.heap.objs.size x y z ->
     (∀c o,((c:Nat)<n\/(c:Nat)=n+3\/n+5<(c:Nat))->s.heap.get? c=⇑o->h'.get? c=⇑o)->Q ⇑↥s.heap.objs.size { s with heap:=h' }) :
   wpAny (model prog w) A (pyNext ↥(n+5)) Q E s:=by
 have hT:s.TypeIs ↥(n+5) "zip":=#[_,zZ,rfl]; unfold pyNext;exact Gp (KD (wpAny_callSpecial?_slot (name:=Str.ofString "__next__") hT Iq
   (IW Iq hT Jj
     (Ed d1 d2 d3 zZ zI zO p1 p2 p3 q1 q2 q3 hx hy hz λh' a1 a2 a3 a4 a5 a6 a7=>HL (hQ h' a1 a2 a3 a4 a5 a6 a7)) (JZ _))))
def G9 {l2 l3:Nat}{k:Nat} {Q:Kd Ke->Kf->Prop} (hh:A.handled=none) (d1:l1<n)
   (zZ:IsZip s.heap (n+5) (n+3) (n+4) .none) (zI:IsTri s.heap (n+3) ↥n ↥(n+1) ↥(n+2))
   (p1:s.heap.IsListIter n l1 k) (q1:s.heap.IsList l1 xs) (hx:xs[k]?=none)
   (hQ:∀h',(∀c o,c≠n->c≠n+5->s.heap.get? c=⇑o->h'.get? c=⇑o)->Q none { s with heap:=h' }):wpAny (model prog w) A (pyNext ↥(n+5)) Q E s:=by
 have hT:s.TypeIs ↥(n+5) "zip":=#[_,zZ,rfl]; unfold pyNext; refine Gp (KD (wpAny_callSpecial?_slot (name:=Str.ofString "__next__") hT Iq
   (IW Iq hT Jj (zv (l2:=l2) (l3:=l3) hh d1 zZ zI p1 q1 hx λh' e hk he=>?_) (JZ _))))
 let#[o,ho,hc]:=he; refine Gp (wpAny_isInstance (T:="StopIteration") (b:=true) #[o,ho,hc] isSubtype_stop ?_);exact HL (hQ _ hk)
end
end PySem
namespace L2
open PySem PySem.Spec PyProof.Rows
abbrev jD (K:Kh) (l1 l2 l3:Kg):It :=
 #[λi H=>∃xs ys zs x y z,aG K H l1 xs/\aG K H l2 ys/\aG K H l3 zs/\xs[i]?=⇑x/\ys[i]?=⇑y/\zs[i]?=⇑z,
  λi H v H'=>∃b,v=↥b/\H b=none/\∀xs ys zs x y z,aG K H l1 xs->aG K H l2 ys->aG K H l3 zs->xs[i]?=⇑x->ys[i]?=⇑y->zs[i]?=⇑z->H'=upd H b (.tup [x,y,z]),
  λi H=>∃xs,aG K H l1 xs/\xs[i]?=none]
def yt {P:Program} {w:World} {K:Kh} {elts:List Expr} {k:Nat} {pos:Pos} (n l1 l2 l3:Nat) (d1:l1<n) (d2:l2<n) (d3:l3<n) :
   Turn P w K (.Tuple elts k pos) (jD K l1 l2 l3) [n,n+1,n+2,n+3,n+4,n+5] (n+5) (λi h=>IsZip h (n+5) (n+3) (n+4) .none/\IsTri h (n+3) ↥n ↥(n+1) ↥(n+2)/\(∃a b c,IsTri h (n+4) a b c)/\h.IsListIter n l1 i/\h.IsListIter (n+1) l2 i/\h.IsListIter (n+2) l3 i) where
 mem:=by simp
 obj:=λi h st b hb=>by
   obtain⟨hz,hTI,⟨a,c,d,hTO⟩,⟨o1,h1,_,k1⟩,⟨o2,h2,_,k2⟩,⟨o3,h3,_,k3⟩⟩:=st;simp only[HM,Hh,or_false] at hb;rcases hb with rfl|rfl|rfl|rfl|rfl|rfl
   . show#[_,h1,λv z=>by rw[k1] at z; cases z]
   . show#[_,h2,λv z=>by rw[k2] at z; cases z]
   . show#[_,h3,λv z=>by rw[k3] at z; cases z]
   . show#[_,hTI,λv z=>by cases (show Data.seq _ _=Data.cell v from z)]
   . show#[_,hTO,λv z=>by cases (show Data.seq _ _=Data.cell v from z)]
   . show#[_,hz,λv z=>by cases (show Data.fields _=Data.cell v from z)]
 keep:=λi h h' st kk=>by obtain⟨hz,hTI,⟨a,c,d,hTO⟩,⟨o1,h1,k1⟩,⟨o2,h2,k2⟩,⟨o3,h3,k3⟩⟩:=st;show#[kk _ 0xA _ hz,kk _ 0xA _ hTI,#[a,c,d,kk _ 0xA _ hTO],#[o1,kk _ 0xA _ h1,k1],#[o2,kk _ 0xA _ h2,k2],#[o3,kk _ 0xA _ h3,k3]]
 item:=by
   intro X hP hw hK hc i pins s σ H E I hf st hg;subst hP hw hK;obtain⟨hz,hTI,⟨oa,ob,oc,hTO⟩,h1,h2,h3⟩:=st;let#[xs,ys,zs,x,y,z,e1,e2,e3,hx,hy,hz']:=hg;let#[is1,r1,p1,_]:=I.list e1;let#[is2,r2,p2,_]:=I.list e2;let#[is3,r3,p3,_]:=I.list e3;let#[u1,hu1,ru1]:=r1.get hx;let#[u2,hu2,ru2]:=r2.get hy;let#[u3,hu3,ru3]:=r3.get hz';refine zV d1 d2 d3 hz hTI hTO h1 h2 h3 p1.isList p2.isList p3.isList ↑hu1 ↑hu2 ↑hu3 λh' a1 a2 a3 a4 a5 a6 hk=>?_;show#[5,KM a1 λh9 hz9 hs9=>?_];have hs9:Heap.SameBut (n+5) h' h9:=hs9;have hzlt:n+5<s.heap.objs.size:=HU hz;have hfr:H s.heap.objs.size=none:=I.hok.fresh (Gw _);have hT9:IsTri h9 s.heap.objs.size u1 u2 u3:=(hs9.2 _ (Ij hzlt))\a6;have lit:∀j l,j≠n+5->h'.IsListIter j l (i+1)->h9.IsListIter j l (i+1):=λj l hj z217_=>by let#[o,ho,r]:=z217_; show#[o,(hs9.2 _ hj)\ho,r]
   show#[↥s.heap.objs.size,upd H s.heap.objs.size (.tup [x,y,z]),I.turnLaid (t':=s.toks) (ch:=[n,n+1,n+2,n+3,n+4,n+5]) (λb o hb q=>?_) hf (Gw _) ?_,rfl,#[s.heap.objs.size,rfl,hfr,λxs' ys' zs' x' y' z' q1 q2 q3 hx' hy' hz''=>?_],#[hz9,?_,#[u1,u2,u3,?_],lit _ _ (bH ∅) a3,lit _ _ (bH ∅) a4,lit _ _ (bH ∅) a5],λb hb=>?_]
   . simp only[HM,Hh,or_false,not_or] at hb;let#[n0,n1,n2,n3,n4,n5]:=hb;have n0:¬ @Eq Nat b (n):=n0;have n1:¬ @Eq Nat b (n+1):=n1;have n2:¬ @Eq Nat b (n+2):=n2;have n4:¬ @Eq Nat b (n+4):=n4;have n5':¬ @Eq Nat b (n+5):=n5;exact(hs9.2 b n5).trans (hk b o ∅ q)
   . show#[by show 3<=sizeLine; decide,[u1,u2,u3],.cons ru1 (.cons ru2 (.cons ru3 .nil)),#[_,hT9,13]]
   . have t1:=I.list_inj q1 e1;have t2:=I.list_inj q2 e2;have t3:=I.list_inj q3 e3;subst t1 t2 t3;rw[hx] at hx';rw[hy] at hy';rw[hz'] at hz'';cases hx';cases hy';cases hz'';rfl
   . exact(hs9.2 _ (bH ∅)).trans (hk _ _ (.inr (.inl rfl)) hTI)
   . exact(hs9.2 _ (bH ∅)).trans a2
   . have hb0:=(hf b hb).1;rw[aJ]
     . exact hb0
     . intro zz;subst zz;simp only[HM,Hh,or_false] at hb;rcases hb with e|e|e|e|e|e <;> rw[e] at hzlt <;> lia
 done:=by
   intro X hP hw hK hc i pins s σ H E I hf st hg;subst hP hw hK;let#[hz,hTI,_,h1,h2,h3]:=st;let#[xs,e1,hend]:=hg;let#[is1,r1,p1,_]:=I.list e1;refine G9 (l2:=l2) (l3:=l3) (I.ok.hd hc) d1 hz hTI h1 p1.isList ?_ λh' hk=>#[rfl,?_]
   . have:=r1.none_of hend;simpa using this
   . exact I.turnedL (t':=s.toks) (ch:=[n,n+1,n+2,n+3,n+4,n+5]) (λb o hb q=>hk b o (λzz=>hb (by simp [zz])) (λzz=>hb (by simp [zz])) q) hf
 self:=λ_ _ _ _ _ st h=>Jk st.1 h
section
variable {X:Cx}
abbrev Cr (K:Kh) (ta:TA):TI:=λσ H R=>ta σ H λvs H1=>∃l1 l2 l3,vs=[↥l1,↥l2,↥l3]/\(∃xs,aG K H1 l1 xs)/\(∃ys,aG K H1 l2 ys)/\(∃zs,aG K H1 l3 zs)/\R (jD K l1 l2 l3) H1
def A6 {a b c:Expr} {ta:TA} {p pos tpos:Pos} {elts:List Expr} {k:Nat} (hg:Gl X "zip") (hm:X.mg "zip"=none) (ha:PA X [a,b,c] ta) (hs:starEach [a,b,c] X.env=(false,eval a X.env)::starEach [b,c] X.env:=by rfl) (hs2:(backTo pos (starEach [b,c] X.env)).any (·.1)=false:=by rfl) :
   PI X (.Tuple elts k tpos) (.Call (.Name "zip" p) [a,b,c] [] pos) (Cr X.K ta):=by
 intro pins s σ H R I h;refine Call_ (fD I hg hm uw (IF (aW (ha pos pins s σ H _ I h) λus s1 z218_=>?_) hs hs2));let#[vs,H1,I1,r1,q1]:=z218_;obtain⟨l1,l2,l3,e,⟨xs,hx⟩,⟨ys,hy⟩,⟨zs,hz⟩,q⟩:=q1;subst e;cases r1 with
 | cons r rr =>
   cases rr with
   | cons r' rr =>
     cases rr with
     | cons r'' rr =>
       cases rr;cases r;cases r';cases r'';let#[is1,v1,p1,_]:=I1.list hx;let#[is2,v2,p2,_]:=I1.list hy;let#[is3,v3,p3,_]:=I1.list hz;have lt:∀{l:Kg} {xs:Array Ke},s1.heap.IsList l xs->l<s1.heap.objs.size:=λh=>by let#[o,ho,_]:=h; exact HU ho
       refine yQ p1.isList p2.isList p3.isList λh' n hn hz' hTI hTO h1 h2 h3 hk=>?_;subst hn;refine Jk hz' ?_;show#[s1.heap.objs.size+5,[s1.heap.objs.size,s1.heap.objs.size+1,s1.heap.objs.size+2,s1.heap.objs.size+3,s1.heap.objs.size+4,s1.heap.objs.size+5],4,H1,rfl,I1.kept (t':=s1.toks) hk,yt _ l1 l2 l3 (lt p1.isList) (lt p2.isList) (lt p3.isList),#[hz',hTI,#[8,hTO],h1,h2,h3],λb hb=>?_,q];have hb':s1.heap.objs.size<=b:=by simp only[HM,Hh,or_false] at hb;rcases hb with e|e|e|e|e|e <;> rw[e] <;> first|exact Gw _|exact KQ _ _
       exact I1.fpOk hb' (I1.hok.fresh hb')
def yk {K:Kh} {l1 l2 l3:Kg} {m:Nat} {g:TG} {tb:TS} {D:Ends} {σ:St} {H:Hp} (Pv:Nat->St->Hp->Prop) (h0:Pv 0 σ H)
   (hl:∀i σ H,i<=m->Pv i σ H->∃xs ys zs,aG K H l1 xs/\aG K H l2 ys/\aG K H l3 zs/\xs.length=m/\ys.length=m/\zs.length=m /\
     ∀x y z b,xs[i]?=⇑x->ys[i]?=⇑y->zs[i]?=⇑z->H b=none->g ↥b σ (upd H b (.tup [x,y,z])) λσ2 H2=>tb { D with nx:=Pv (i+1),ct:=Pv (i+1),bk:=D.nx } σ2 H2) (hd:∀σ H,Pv m σ H->D.nx σ H) :
   ∃W:Nat->Nat->St->Hp->Prop,(∃m,W 0 m σ H)/\∀i m σ H,W i m σ H->((jD K l1 l2 l3).stop i H/\D.nx σ H)\/((jD K l1 l2 l3).go i H/\∃N:St->Hp->Prop,(∀σ' H',N σ' H'->∃m',m'<m/\W (i+1) m' σ' H')/\∀x H',(jD K l1 l2 l3).yld i H x H'->g x σ H' λσ2 H2=>tb { D with nx:=N,ct:=N,bk:=D.nx } σ2 H2):=by
 show#[λi j σ H=>j=m - i/\i<=m/\Pv i σ H,#[m,∅,Hj _,h0],?_];rintro i j σ H ⟨rfl,hi,p⟩;let#[xs,ys,zs,q1,q2,q3,l1',l2',l3',hs]:=hl i σ H hi p;by_cases hlt:i<m
 . have e1:xs[i]?=some xs[i]:=by simp [l1',hlt]
   have e2:ys[i]?=some ys[i]:=by simp [l2',hlt]
   have e3:zs[i]?=some zs[i]:=by simp [l3',hlt]
   refine .inr #[#[xs,ys,zs,8,q1,q2,q3,e1,e2,e3],Pv (i+1),λσ' H' p'=>#[m - (i+1),∅,rfl,hlt,p'],λx H' y=>?_];let#[b,rfl,hb,y]:=y;rw[y xs ys zs _ _ _ q1 q2 q3 e1 e2 e3];exact hs _ _ _ b e1 e2 e3 hb
 . have e:i=m:=by lia
   subst e;exact .inl #[#[xs,q1,Im ∅],hd σ H p]
end
section
variable {X:Cx}
abbrev zU (K:Kh):List V->Hp->VK->Prop:=λxs H Q=>∃(p:Kg) (ns:List Int),xs=[↥p]/\aG K H p (ns.map V.int)/\ns≠[]/\∀n∈ns,Q (.int n) H
def sY:∀{ns:List Int} {its:List Ke},ae (ns.map V.int) its->∃xs:List (Int×Tok),its.toArray=intItems xs.toArray/\xs.map (·.1)=ns
 | [],[],_=>#[[],by simp [intItems],rfl]
 | n::ns,_::its,.cons r rr=>by
   let#[t,rfl]:=r;let#[xs,e1,e2]:=sY rr;show#[(n,t)::xs,?_,by rw[Hn,e2]];unfold intItems at e1 ⊢;have e3:its=xs.map λp=>Value.int p.1 p.2:=↑e1
   rw[e3];simp
def FE (hc:X.calm=true):bh X (.builtin "max") (zU X.K):=by
 intro pins s σ H xs us Q I r h;let#[p,ns,rfl,hp,hne,q]:=h;let#[u,rfl,ru]:=gJ r;cases (show u=Value.ref p from ru);let#[its,rv,pl,hz]:=I.list hp;let#[ps,e1,e2]:=sY rv;have hl:=pl.isList;rw[e1] at hl;refine max_intList (I.ok.hd hc) hl ?_ λv h' tk hv hk=>?_
 . rw[HZ];refine Nat.pos_of_ne_zero λz=>hne ?_;rw[<- e2,IK z];rfl
 . unfold intItems at hv;rw[Array.getElem?_map,Ix] at hv;obtain⟨⟨n,t⟩,hn,rfl⟩:=hv;have hm:n∈ns:=by rw[<- e2];exact HX.mpr #[(n,t),He ↑hn,rfl]
   show#[.int n,H,I.kept hk,#[t,rfl],q n hm]
end
end L2
namespace Wh
open PySem L2 Gx Fl K41 Bg Wk
inductive RH where
 | rg (r:RG)|els|fin
abbrev RH.items:RH->List V
 | .rg r=>r.items
 | .els=>[.str "else"]
 | .fin=>[.str "end"]
abbrev RH.kind:RH->Str
 | .rg r=>r.kind
 | .els=>"else"
 | .fin=>"end"
abbrev RH.gx:RH->Kd Str
 | .rg r=>r.gx
 | _=>none
abbrev RH.as:RH->List V
 | .rg r=>r.as
 | _=>[]
abbrev RH.cl:RH->Str
 | .rg r=>r.cl
 | _=>""
abbrev RH.rr (r:Kg) (rg:RH):RR:=#[#[r,rg.kind,rg.cl],#[r,(0),(0),rg.gx,rg.as]]
abbrev RH.parts (rg:RH):List V:=(rg.gx.toList.map V.str)++rg.as
structure RHAt (K:W.Frag) (H:Hp) (r:Addr) (rg:RH):Prop where
 it:aN K H r rg.items
 ar:∀x g p as,rg=.rg (.call x g p as)->aN K H p as
def RHAt.mono {K:Kh} {H H':Hp} {r:Kg} {rg:RH} (h:RHAt K H r rg) (e:aB H H'):RHAt K H' r rg:=#[e<*h.it,λx g p as z=>e<*(h.ar x g p as z)]
def RHAt.rg {K:Kh} {H:Hp} {r:Kg} {rg:RG} (h:RHAt K H r (.rg rg)):RGAt K H r rg:=#[h.it,λx g p as z=>h.ar x g p as (by rw[z])]
abbrev RH.Ok:RH->Prop
 | .rg r=>r.Ok
 | _=>True
def RH.Ok.at_ {rg:RH} (ok:rg.Ok):∀v∈rg.parts,K12.Atom v:=by
 cases rg with
 | rg r=>exact RG.Ok.at_ ok
 | els=>exact λv hv=>absurd hv Hh
 | fin=>exact λv hv=>absurd hv Hh
def FK {rg:RH} (ok:rg.Ok):rg.as.length<=10:=by
 cases rg with
 | rg r=>exact Wk.as_len ok
 | els=>exact Hj _
 | fin=>exact Hj _
def AJ:¬ (("else":Str)="call"):=by decide +kernel
def Ds:¬ (("end":Str)="call"):=by decide +kernel
def zd {K:Kh} {H:Hp} {r:Kg} {rg:RH} (h:RHAt K H r rg) (ok:rg.Ok):oS K H (rg.rr r):=by
 cases rg with
 | rg x=>exact Wk.rg_ok h.rg ok
 | els=>show#[rfl,#[_,h.it,λz=>absurd z AJ],#[#[_,h.it,.els],(λv hv=>absurd hv Hh),Hj _,(λx hx=>by cases hx)]]
 | fin=>show#[rfl,#[_,h.it,λz=>absurd z Ds],#[#[_,h.it,.fin],(λv hv=>absurd hv Hh),Hj _,(λx hx=>by cases hx)]]
abbrev cg (rs:List Kg) (rgs:List RH):List RR:=(rs.zip rgs).map λp=>p.2.rr p.1
variable {rs:List Kg} {rgs:List RH}
def nq (h:rs.length=rgs.length):(cg rs rgs).length=rgs.length:=by
 unfold cg;rw[Go,J0]
 lia
def uE {k:Nat} {x:RR} (hx:(cg rs rgs)[k]?=⇑x):∃r rg,rs[k]?=⇑r/\rgs[k]?=⇑rg/\x=rg.rr r:=by unfold cg at hx;rw[HV,Ix] at hx;let#[p,hp,rfl]:=hx;rw[Io] at hp;show#[p.1,p.2,hp.1,hp.2,rfl]
def pU {α:Type} (g:Kg->α):∀(rs:List Kg) (rgs:List RH),rs.length=rgs.length->(rs.zip rgs).map (λp=>g p.1)=rs.map g
 | [],[],_=>rfl
 | r::rs,v::rgs,h=>by rw[K9,Hn,Hn,pU g rs rgs ↑h]
 | [],_::_,h=>by simp at h
 | _::_,[],h=>by simp at h
def qb {α:Type} (g:RH->α):∀(rs:List Kg) (rgs:List RH),rs.length=rgs.length->(rs.zip rgs).map (λp=>g p.2)=rgs.map g
 | [],[],_=>rfl
 | r::rs,v::rgs,h=>by rw[K9,Hn,Hn,qb g rs rgs ↑h]
 | [],_::_,h=>by simp at h
 | _::_,[],h=>by simp at h
def Df (h:rs.length=rgs.length):((cg rs rgs).map λx=>V.ref x.w.r)=rs.map V.ref:=by unfold cg;rw[IG];exact pU V.ref rs rgs h
def um (h:rs.length=rgs.length):((cg rs rgs).map λx=>x.w.k)=rgs.map RH.kind:=by unfold cg;rw[IG];exact qb RH.kind rs rgs h
def D8 (r:Kg) (rg:RH):K12.rowStrs (rg.rr r).d=K12.strsOf rg.parts:=by unfold RH.parts K12.rowStrs;rw[K12.strsOf_append,K12.strsOf_map];rfl
def re {β:Type} (g:RH->List β):∀(rs:List Kg) (rgs:List RH),rs.length=rgs.length->(rs.zip rgs).flatMap (λp=>g p.2)=rgs.flatMap g
 | [],[],_=>rfl
 | r::rs,v::rgs,h=>by rw[K9,KJ,KJ,re g rs rgs ↑h]
 | [],_::_,h=>by simp at h
 | _::_,[],h=>by simp at h
abbrev eC (rgs:List RH):List Str:=rgs.flatMap λrg=>K12.strsOf rg.parts
def tR (h:rs.length=rgs.length):((cg rs rgs).map (·.d)).flatMap K12.rowStrs=eC rgs:=by
 unfold cg eC;rw[IG,List.flatMap_map];have:((λp:Kg×RH=>K12.rowStrs (((λx:RR=>x.d) ∘ λp:Kg×RH=>p.2.rr p.1) p)):Kg×RH->List Str)=λp=>(λrg:RH=>K12.strsOf rg.parts) p.2:=by funext p;exact D8 p.1 p.2
 rw[this];exact re (λrg=>K12.strsOf rg.parts) rs rgs h
def nR {rg:RH} (ok:rg.Ok):rg.parts.length<=11:=by
 unfold RH.parts;rw[Gv,Go];have h1:=FK ok;have h2:rg.gx.toList.length<=1:=by cases rg.gx <;> simp
 lia
def sw:∀rgs:List RH,(∀rg∈rgs,rg.Ok)->(eC rgs).length<=11 * rgs.length
 | [],_=>by simp [eC]
 | rg::rgs,ok=>by
   have h1:=sw rgs λr hr=>ok r (Gz _ hr);have h2:=K12.strsOf_len rg.parts;have h3:=nR (ok rg HH);unfold eC at h1 ⊢;rw[KJ,Gv,Hs]
   lia
abbrev dP (nk:Str) (fo:V) (fa qC tr:Kg) (ps:List Str) (rs:List Kg) (rgs:List RH):F2.Fd:=#[nk,fo,fa,qC,tr,ps,(cg rs rgs).map (·.w),(cg rs rgs).map (·.d)]
section
variable {K:Kh} {H:Hp} {nk:Str} {fa tr qC:Kg} {fo:V} {ps:List Str} {rs:List Kg} {rgs:List RH}
def AT (hl:rs.length=rgs.length) (h1:aN K H fa [.str nk,fo,↥qC,↥tr]) (h2:aN K H tr (rs.map V.ref)) (h3:∀(i:Nat) r rg,rs[i]?=⇑r->rgs[i]?=⇑rg->RHAt K H r rg/\rg.Ok) (h4:aN K H qC (ps.map V.str)) (h5:∀s∈ps,K12.Nm s) (h6:ps.length<=100) (h7:rgs.length<=100) (wf:K13.Wf (rgs.map RH.kind)) :
   F2.FnAt K H (dP nk fo fa qC tr ps rs rgs):=by
 refine Ec (cg rs rgs) h1 (by rw[Df hl]; exact h2) (λx hx=>?_) h4 h5 h6 (by rw[nq hl]; exact h7) (by rw[um hl]; exact wf);let#[k,hk]:=Hy hx;let#[r,rg,e1,e2,rfl]:=uE hk;exact zd (h3 k r rg e1 e2).1 (h3 k r rg e1 e2).2
def D' (hl:rs.length=rgs.length) {x:Str}:x∈F2.nms (dP nk fo fa qC tr ps rs rgs) <-> x∈ps\/x∈eC rgs:=by unfold F2.nms K12.allOf;rw[Ad,HW];show x∈ps\/x∈((cg rs rgs).map (·.d)).flatMap K12.rowStrs <-> _;rw[tR hl]
def GW (hl:rs.length=rgs.length) (ok:∀rg∈rgs,rg.Ok):(F2.nms (dP nk fo fa qC tr ps rs rgs)).length<=ps.length+11 * rgs.length:=by
 unfold F2.nms K12.allOf;refine Hf (K12.onceL_len _) ?_;rw[Gv];show ps.length+(((cg rs rgs).map (·.d)).flatMap K12.rowStrs).length<=_;rw[tR hl];have:=sw rgs ok
 lia
def BX (hl:rs.length=rgs.length) {k:Nat} {rg:RH} (hv:rgs[k]?=⇑rg):∃w:Rw,(dP nk fo fa qC tr ps rs rgs).rs[k]?=⇑w/\rs[k]?=⇑w.r:=by
 have hk:k<(cg rs rgs).length:=by rw[nq hl]; exact(Gq.mp hv).1
 have hx:(cg rs rgs)[k]?=⇑(cg rs rgs)[k]:=HN hk;let#[r,rg',e1,e2,e3]:=uE hx;show#[(cg rs rgs)[k].w,?_,?_]
 . show((cg rs rgs).map (·.w))[k]?=_;rw[HV,hx];rfl
 . rw[e3]; exact e1
def Dv (hl:rs.length=rgs.length):(dP nk fo fa qC tr ps rs rgs).rs.length=rgs.length:=by show((cg rs rgs).map (·.w)).length=_;rw[Go,nq hl]
end
def Ct {nk:Str} {fo:V} {fa qC tr:Kg} {ps:List Str} (hl:rs.length=rgs.length):F2.kds (dP nk fo fa qC tr ps rs rgs)=rgs.map RH.kind:=by unfold F2.kds;show((cg rs rgs).map (·.w)).map (·.k)=_;rw[IG];exact um hl
def RHAt.lst {K:Kh} {H:Hp} {q r:Kg} {l:List V} {o:HO} {rh:RH} (h:RHAt K H r rh) (hq:H q=⇑(.lst l)):RHAt K (upd H q o) r rh:=#[K13.sqT_lst h.it hq,λx g p as z=>K13.sqT_lst (h.ar x g p as z) hq]
def RH.item0 (rh:RH):bD rh.items 0=⇑(.str rh.kind):=by
 cases rh with
 | rg r=>cases r <;> rfl
 | els=>rfl
 | fin=>rfl
end Wh
namespace K25
open PySem L2 Gx Fl Wk
abbrev am (i:Nat):Stmt:=PySem.Challenge.pw_stopglass_k25_whole_walks.main.body.getD i (.Pass #[(0),(0),(0),(0)])
noncomputable abbrev iZ:Stmt:=am 8
noncomputable abbrev kQ:Stmt:=am 9
noncomputable abbrev mW:Stmt:=am 10
noncomputable abbrev kx:Stmt:=am 11
noncomputable abbrev mO:Stmt:=am 12
noncomputable abbrev iD:Stmt:=am 13
noncomputable abbrev jU:Stmt:=am 14
noncomputable abbrev fm:Stmt:=am 15
noncomputable abbrev gg:Stmt:=cK (am 16) 0
noncomputable abbrev kN:Stmt:=am 19
noncomputable abbrev lJ:Stmt:=cK (am 20) 0
noncomputable abbrev lR:Stmt:=cK (am 20) 1
noncomputable abbrev lw:Stmt:=cK (am 20) 2
noncomputable abbrev kt:Stmt:=cK (am 20) 3
noncomputable abbrev lY:Stmt:=cK (am 20) 4
noncomputable abbrev jl:Stmt:=cK (am 20) 5
noncomputable abbrev kZ:Stmt:=cK (am 20) 6
noncomputable abbrev m6:Stmt:=cK (am 20) 7
noncomputable abbrev kW:Stmt:=cK (am 20) 12
noncomputable abbrev ky:Stmt:=cK (am 20) 13
noncomputable abbrev lC:Stmt:=cK (am 20) 14
noncomputable abbrev lI:Stmt:=cK (am 20) 15
noncomputable abbrev lr:Stmt:=cK (am 20) 16
noncomputable abbrev lL:Stmt:=cK (am 20) 17
noncomputable abbrev lj:Stmt:=cK (am 21) 0
noncomputable abbrev lp:Stmt:=cK (am 21) 1
noncomputable abbrev lO:Stmt:=cK (am 22) 0
noncomputable abbrev mQ:Stmt:=cK (am 22) 2
noncomputable abbrev kL:Stmt:=cK (am 22) 3
noncomputable abbrev mC:Stmt:=cK (am 22) 4
noncomputable abbrev eo:Stmt:=cK (am 22) 5
noncomputable abbrev iY:Stmt:=cK (am 22) 6
noncomputable abbrev lE:Stmt:=cK (am 22) 7
noncomputable abbrev mX:Stmt:=cK (am 22) 8
noncomputable abbrev ia:Stmt:=cK (am 22) 9
noncomputable abbrev iS:Stmt:=cK (am 22) 10
noncomputable abbrev iT:Stmt:=cK (am 22) 11
noncomputable abbrev lV:Stmt:=am 24
noncomputable abbrev kA:Stmt:=am 34
noncomputable abbrev lW:Stmt:=am 35
noncomputable abbrev mV:Stmt:=am 47
noncomputable abbrev jp:Stmt:=am 38
noncomputable abbrev jZ:Stmt:=am 39
noncomputable abbrev lB:Stmt:=am 40
noncomputable abbrev mR:Stmt:=am 41
noncomputable abbrev kP:Stmt:=am 42
noncomputable abbrev lX:Stmt:=am 25
noncomputable abbrev jj:Stmt:=am 26
noncomputable abbrev j':Stmt:=am 27
noncomputable abbrev jV:Stmt:=am 32
noncomputable abbrev iz:Stmt:=am 36
noncomputable abbrev jJ:Stmt:=am 37
noncomputable abbrev eB:Stmt:=am 28
noncomputable abbrev eO:Stmt:=am 29
noncomputable abbrev da:Stmt:=am 30
noncomputable abbrev im:Stmt:=am 43
noncomputable abbrev jQ:Stmt:=am 44
noncomputable abbrev fE:Stmt:=am 45
noncomputable abbrev lS:Stmt:=am 49
noncomputable abbrev eD:Stmt:=am 31
noncomputable abbrev ka:Stmt:=am 33
noncomputable abbrev gK:Stmt:=am 46
noncomputable abbrev gQ:Stmt:=am 48
noncomputable abbrev fP:Stmt:=am 50
set_option genInjectivity false in
set_option genSizeOf false in
structure Adr where
 bR:Addr
 wZ:Addr
 bn:Addr
 dW:Addr
 wV:Addr
 xn:FuncData
 wW:Addr
 xo:FuncData
 vk:Addr
 xJ:FuncData
 vd:Addr
 xF:FuncData
 vg:Addr
 xH:FuncData
 wY:Addr
 xq:FuncData
 ve:Addr
 xG:FuncData
 vh:Addr
 xI:FuncData
 vB:Addr
 wb:FuncData
 wX:Addr
 xp:FuncData
 vV:Addr
 x6:FuncData
 vS:Addr
 wy:FuncData
 vP:Addr
 wv:FuncData
 va:Addr
 xC:FuncData
 vT:Addr
 wz:FuncData
 vU:Addr
 x5:FuncData
 vc:Addr
 xE:FuncData
 vb:Addr
 xD:FuncData
 vQ:Addr
 ww:FuncData
 vR:Addr
 wx:FuncData
 vX:Addr
 x9:FuncData
 vZ:Addr
 xB:FuncData
 vY:Addr
 xA:FuncData
 vW:Addr
 x8:FuncData
 vC:Addr
 wc:FuncData
 vD:Addr
 wd:FuncData
 vJ:Addr
 wn:FuncData
 vF:Addr
 wg:FuncData
 vL:Addr
 wq:FuncData
 vM:Addr
 wr:FuncData
 vO:Addr
 wu:FuncData
 vE:Addr
 we:FuncData
 vK:Addr
 wo:FuncData
 vI:Addr
 wm:FuncData
 vH:Addr
 wk:FuncData
 vG:Addr
 wj:FuncData
 vN:Addr
 wt:FuncData
 vt:Addr
 xN:FuncData
 wP:Addr
 xh:FuncData
 wR:Addr
 xj:FuncData
 wS:Addr
 xk:FuncData
 vn:Addr
 xL:FuncData
 wJ:Addr
 xZ:FuncData
 wO:Addr
 xg:FuncData
 wT:Addr
 xm:FuncData
 wQ:Addr
 xi:FuncData
 vy:Addr
 xP:FuncData
 wL:Addr
 xb:FuncData
 vm:Addr
 xK:FuncData
 wH:Addr
 xX:FuncData
 wK:Addr
 xa:FuncData
 wC:Addr
 xT:FuncData
 wD:Addr
 xU:FuncData
 vp:Addr
 xM:FuncData
 wN:Addr
 xf:FuncData
 wG:Addr
 xW:FuncData
 wA:Addr
 xR:FuncData
 wE:Addr
 xV:FuncData
 wB:Addr
 xS:FuncData
 vw:Addr
 xO:FuncData
 w6:Addr
 xQ:FuncData
 wI:Addr
 xY:FuncData
 wM:Addr
 xc:FuncData
 wU:Addr
 mY:FuncData
 pJ:Addr
 pK:Addr
structure Txt (K:W.Frag) (mg:Str->Option Value) (t:Adr):Prop where
 names_of:DefOk K mg "names_of" iZ ["function"] t.wV t.xn
 reads:DefOk K mg "reads" kQ ["row"] t.wW t.xo
 gives:DefOk K mg "gives" mW ["row"] t.vk t.xJ
 atoms_of:DefOk K mg "atoms_of" kx ["row"] t.vd t.xF
 each_once:DefOk K mg "each_once" mO ["names"] t.vg t.xH
 ways:DefOk K mg "ways" iD ["rows"] t.wY t.xq
 begins_of:DefOk K mg "begins_of" jU ["rows"] t.ve t.xG
 firsts_behind:DefOk K mg "firsts_behind" fm ["rows","begins"] t.vh t.xI
 uy:IniOk K t.bR "Flows.__init__" gg ["self","program"] t.vB t.wb
 value:DefOk K mg "value" kN ["sign","one","other"] t.wX t.xp
 pC:BasOk K t.wZ "__init__" "Walker.__init__" lJ ["self","program"] t.vV t.x6
 fZ:MetOk K t.bn "ended" "Walker.ended" lR ["self"] t.vS t.wy
 kI:MetOk K t.bn "answer" "Walker.answer" lw ["self"] t.vP t.wv
 iF:MetOk K t.bn "sent" "Walker.sent" kt ["self"] t.va t.xC
 kJ:MetOk K t.bn "field" "Walker.field" lY ["self","record","name"] t.vT t.wz
 kK:MetOk K t.bn "frames" "Walker.frames" jl ["self"] t.vU t.x5
 pI:MetOk K t.bn "told" "Walker.told" kZ ["self","level","name"] t.vc t.xE
 pH:MetOk K t.bn "step" "Walker.step" m6 ["self"] t.vb t.xD
 pA:MetOk K t.bn "ask_for_level" "Walker.ask_for_level" kW ["self","level"] t.vQ t.ww
 pB:MetOk K t.bn "ask_for_name" "Walker.ask_for_name" ky ["self","level","name"] t.vR t.wx
 pE:MetOk K t.bn "names_at" "Walker.names_at" lC ["self","level"] t.vX t.x9
 pG:MetOk K t.bn "send_out" "Walker.send_out" lI ["self","number"] t.vZ t.xB
 pF:MetOk K t.bn "put_field" "Walker.put_field" lr ["self","record","name","number"] t.vY t.xA
 pD:MetOk K t.bn "make_record" "Walker.make_record" lL ["self"] t.vW t.x8
 uz:IniOk K t.dW "TextFrame.__init__" lj ["self","function","named"] t.vC t.wc
 cx:MetOk K t.dW "value_of" "TextFrame.value_of" lp ["self","atom"] t.vD t.wd
 vA:IniOk K t.bn "TextWalker.__init__" lO ["self","program","args"] t.vJ t.wn
 kF:MetOk K t.bn "chain_of" "TextWalker.chain_of" mQ ["self","frame"] t.vF t.wg
 kH:MetOk K t.bn "shown_at" "TextWalker.shown_at" kL ["self","level"] t.vL t.wq
 oz:MetOk K t.bn "tell" "TextWalker.tell" mC ["self","level","name"] t.vM t.wr
 p7:MetOk K t.bn "walk_on" "TextWalker.walk_on" eo ["self"] t.vO t.wu
 kE:MetOk K t.bn "begin" "TextWalker.begin" iY ["self","function","args"] t.vE t.we
 kG:MetOk K t.bn "row_of" "TextWalker.row_of" lE ["self","frame"] t.vK t.wo
 iE:MetOk K t.bn "go_on" "TextWalker.go_on" mX ["self","frame","way"] t.vI t.wm
 oy:MetOk K t.bn "go_back" "TextWalker.go_back" ia ["self","number"] t.vH t.wk
 ox:MetOk K t.bn "do_row" "TextWalker.do_row" iS ["self","frame","row"] t.vG t.wj
 p5:MetOk K t.bn "value_given" "TextWalker.value_given" iT ["self","frame","row"] t.vN t.wt
 j9:DefOk K mg "_law_cell_at" lV ["_law_script","_law_k"] t.vt t.xN
 pT:DefOk K mg "_law_stream" kA ["_law_cell","_law_many"] t.wP t.xh
 yI:DefOk K mg "_law_value_by" lW ["_law_number"] t.wR t.xj
 mZ:DefOk K mg "_law_whole" mV ["_law_found"] t.wS t.xk
 pN:DefOk K mg "_law_behind" jp ["_law_rows","_law_k","_law_words"] t.vn t.xL
 pQ:DefOk K mg "_law_opened" jZ ["_law_rows","_law_k"] t.wJ t.xZ
 pS:DefOk K mg "_law_stop" lB ["_law_rows","_law_k"] t.wO t.xg
 dr:DefOk K mg "_law_worth" mR ["_law_atom","_law_now"] t.wT t.xm
 yH:DefOk K mg "_law_value" kP ["_law_sign","_law_one","_law_other"] t.wQ t.xi
 pO:DefOk K mg "_law_digits" lX ["_law_number","_law_sizes"] t.vy t.xP
 pR:DefOk K mg "_law_pool" jj ["_law_cell","_law_many"] t.wL t.xb
 pM:DefOk K mg "_law_atoms" j' ["_law_number","_law_names","_law_many"] t.vm t.xK
 yC:DefOk K mg "_law_mixed" jV ["_law_cells"] t.wH t.xX
 yE:DefOk K mg "_law_parts" iz ["_law_row"] t.wK t.xa
 pP:DefOk K mg "_law_frame" jJ ["_law_function","_law_args"] t.wC t.xT
 xz:DefOk K mg "_law_free_row" eB ["_law_number","_law_names","_law_fields","_law_shapes"] t.wD t.xU
 xr:DefOk K mg "_law_body" eO ["_law_cells","_law_names","_law_fields","_law_shapes","_law_last"] t.vp t.xM
 yG:DefOk K mg "_law_stations" da ["_law_program"] t.wN t.xf
 yB:DefOk K mg "_law_gone_back" im ["_law_stack","_law_number"] t.wG t.xW
 xx:DefOk K mg "_law_entered" jQ ["_law_stack","_law_program","_law_row","_law_now"] t.wA t.xR
 yA:DefOk K mg "_law_given" fE ["_law_row","_law_now","_law_store"] t.wE t.xV
 xy:DefOk K mg "_law_field_told" lS ["_law_walker","_law_store"] t.wB t.xS
 xu:DefOk K mg "_law_digit_program" eD ["_law_cells","_law_base","_law_most"] t.vw t.xO
 xw:DefOk K mg "_law_drawn" ka ["_law_script","_law_cells"] t.w6 t.xQ
 yD:DefOk K mg "_law_moved" gK ["_law_stack","_law_program","_law_store"] t.wI t.xY
 yF:DefOk K mg "_law_stands" gQ ["_law_walker","_law_stack","_law_pick"] t.wM t.xc
 law:DefOk K mg "law" fP ["_law_script"] t.wU t.mY
 d7:ClsOk K mg "Flows" t.bR
 Gk:ClsOk K mg "Walker" t.wZ
 aq:ClsOk K mg "TextWalker" t.bn
 cP:ClsOk K mg "TextFrame" t.dW
 jB:cj K t.bR "last"
 jC:cj K t.bR "number_of"
 jA:cj K t.bR "folded_of"
 iG:cj K t.bR "params_of"
 iH:cj K t.bR "rows_of"
 gc:cj K t.bR "names_in"
 iI:cj K t.bR "ways_in"
 ez:cj K t.bn "flows"
 dX:cj K t.bn "stack"
 iK:cj K t.bn "outcome"
 iM:cj K t.bn "sendings"
 iJ:cj K t.bn "contents"
 iL:cj K t.bn "records"
 gd:cj K t.dW "function"
 fb:cj K t.dW "row"
 eQ:cj K t.dW "named"
 pL:∃tk,mg "WIDE"=⇑(.int 281474976710656 tk)
 Gj:mg "GIVING_KINDS"=⇑↥t.pJ
 Gm:∀H:Hp,aN K H t.pJ (K12.giving.map V.str)
 Gi:mg "ATOM_PLACES"=⇑↥t.pK
 Gn:oH K t.pK K12.tabl
 b_len:mg "len"=none
 b_list:mg "list"=none
 b_tuple:mg "tuple"=none
 b_isinstance:mg "isinstance"=none
 b_range:mg "range"=none
 b_enumerate:mg "enumerate"=none
 b_dict:mg "dict"=none
 b_str:mg "str"=none
 b_min:mg "min"=none
 b_max:mg "max"=none
 b_int:mg "int"=none
 b_zip:mg "zip"=none
 b_bool:mg "bool"=none
 bl:∀(s:Shared) (u:Value),BindsTo s t.mY #[[u],[]] [("_law_script",u)]
abbrev hV (K:Kh) (C:Kg) (H0 Hb:Hp) (x:Kg) (fns:List F2.Fd):Prop:=∀a xs o,H0 a=⇑(.lst xs)->F2.FlowsAt K C (upd Hb a o) x fns
def hV.mono {K:Kh} {C:Kg} {H0 Hb Hb':Hp} {x:Kg} {fns:List F2.Fd} (h:hV K C H0 Hb x fns) (e:aB Hb Hb'):hV K C H0 Hb' x fns:=λa xs o ha=>(h a xs o ha).mono λb u hb=>by
 by_cases z:b=a
 . rw[z,aI] at hb ⊢; exact hb
 . rw[aJ z] at hb ⊢; exact e _ _ hb
variable {H:Hp} {a:Kg} {ks:List Str} {n:Nat} {xs:List V} {o:HO}
def FA {l:Kg}(h:K13.FoundN H l ks n) (ha:H a=⇑(.lst xs)) (ne:l≠a):K13.FoundN (upd H a o) l ks n:=by
 let#[vs,e1,e2,e3]:=h;show#[vs,(aJ ne)\e1,e2,λk v q=>?_];let#[oo,due,vo]:=e3 k v q;show#[oo,due,?_];cases oo with
 | none=>exact vo
 | some ns =>
   let#[p,z1,z2]:=vo;show#[p,z1,(aJ λz=>by rw[z,ha] at z2; cases z2)\z2]
variable {r i:Nat} {z:Int} {f:Fm} {b sl sk fd la:Kg} {rh:RH} {ns cn:List Str} {H' G Hb H1 H0:Hp} {v:V} {F:F2.Fd} {rgs:List RH} {vals:List V} {A:List Kg}
section
variable {P:Program} {w:World} {K:Kh} {mg:Str->Kd Ke} {base:Heap} {t:Adr}
noncomputable abbrev WA (t:Adr) (Hb H:Hp) (w:Wr) (fs:List Fm) (oc:V) (sent:List V) (cn:Cn):Prop:=WAt t.bn t.dW Hb H w fs oc sent (.dT cn.kv) cn.rc
noncomputable abbrev gV (f:Fm):HO:=.tup [.str f.fn,.int f.row]
abbrev AV (K:Kh) (t:Adr):Sp:=λvs H Q _=>∃(x dx p:Kg) (fns:List F2.Fd),vs=[↥x,↥p]/\H x=⇑(.ins t.bR dx [])/\aG K (ers x H) p (fns.map λf=>V.ref f.fa)/\fns≠[]/\fns.length<=12/\(∀f∈fns,F2.FnAt K (ers x H) f)/\(fns.map (·.name)).Nodup /\
 ∀H',aB (ers x H) H'->F2.FlowsAt K t.bR H' x fns->hV K t.bR (ers x H) H' x fns->Q .non H'
abbrev A5 (K:Kh):Sp:=λvs H Q _=>∃(s:Str) (a b:Int),vs=[.str s,.int a,.int b]/\0<=a/\0<=b/\a<K21.wide/\b<K21.wide/\Q (.int (K21.valOf s a b)) H
abbrev Bf (K:Kh) (t:Adr):Sp:=λvs H Q _=>∃(x dx p:Kg) (fns:List F2.Fd),vs=[↥x,↥p]/\H x=⇑(.ins t.bn dx [])/\aG K (ers x H) p (fns.map λf=>V.ref f.fa)/\fns≠[]/\fns.length<=12/\(∀f∈fns,F2.FnAt K (ers x H) f)/\(fns.map (·.name)).Nodup /\
 ∀Hb w H',w.a=x->aB (ers x H) Hb->WA t Hb H' w [] .non [] #[[],(0)]->F2.FlowsAt K t.bR Hb w.fl fns->hV K t.bR (ers x H) Hb w.fl fns->Q .non H'
abbrev BG (K:Kh) (t:Adr):Sp:=λvs H Q _=>∃(Hb:Hp) (w:Wr) (fs:List Fm) (oc:V) (sent:List V) (cn:Cn),vs=[↥w.a]/\WA t Hb H w fs oc sent cn/\Q (.bl (decide (fs=[]))) H
abbrev zf (K:Kh) (t:Adr):Sp:=λvs H Q _=>∃(Hb:Hp) (w:Wr) (fs:List Fm) (oc:V) (sent:List V) (cn:Cn),vs=[↥w.a]/\WA t Hb H w fs oc sent cn/\Q oc H
abbrev BE (K:Kh) (t:Adr):Sp:=λvs H Q _=>∃(Hb:Hp) (w:Wr) (fs:List Fm) (oc:V) (sent:List V) (cn:Cn),vs=[↥w.a]/\WA t Hb H w fs oc sent cn/\∀l,H l=none->Q ↥l (upd H l (.lst sent))
abbrev AZ (K:Kh) (t:Adr):Sp:=λvs H Q _=>∃(Hb:Hp) (w:Wr) (fs:List Fm) (oc:V) (sent:List V) (cn:Cn) (i:Int) (n:Str),vs=[↥w.a,.int i,.str n]/\WA t Hb H w fs oc sent cn/\∀H',aB H H'->Q (j7 cn i n) H'
abbrev Fn (K:Kh) (t:Adr):Sp:=λvs H Q _=>∃(Hb:Hp) (w:Wr) (fs:List Fm) (oc:V) (sent:List V) (cn:Cn) (i:Int) (n:Str) (v:V),vs=[↥w.a,.int i,.str n,v]/\WA t Hb H w fs oc sent cn/\cn.kv.length<1000000/\∀Hb' H' tp,aB Hb Hb'->WA t Hb' H' w fs oc sent #[aQ cn.kv (fk i n) v,cn.rc]->Hb' tp=⇑(.tup [.str "put",.int i,.str n,v])->Q ↥tp H'
abbrev DR (K:Kh) (t:Adr):Sp:=λvs H Q _=>∃(Hb:Hp) (w:Wr) (fs:List Fm) (oc:V) (sent:List V) (cn:Cn),vs=[↥w.a]/\WA t Hb H w fs oc sent cn/\∀Hb' H' tp,aB Hb Hb'->WA t Hb' H' w fs oc sent #[cn.kv,cn.rc+1]->Hb' tp=⇑(.tup [.str "new",.int (cn.rc+1)])->Q ↥tp H'
abbrev F3 (K:Kh) (t:Adr):Sp:=λvs H Q _=>∃(Hb:Hp) (w:Wr) (fs:List Fm) (oc:V) (sent:List V) (cn:Cn),vs=[↥w.a]/\WA t Hb H w fs oc sent cn/\fs.length<=1000 /\
 ∀l H' (tps:List Kg),H l=none->aB H H'->H' l=⇑(.lst (tps.map V.ref))->tps.length=fs.length->(∀(i:Nat) f tp,fs[i]?=⇑f->tps[i]?=⇑tp->H tp=none/\tp≠l/\H' tp=⇑(gV f))->Q ↥l H'
abbrev Al (K:Kh) (t:Adr):Sp:=λvs H Q _=>∃(Hb:Hp) (w:Wr) (fs:List Fm) (oc:V) (sent:List V) (cn:Cn) (i:Nat) (f:Fm) (n:Str) (v:V) (fns:List F2.Fd) (F:F2.Fd),vs=[↥w.a,.int i,.str n]/\WA t Hb H w fs oc sent cn/\fs[i]?=⇑f/\F2.FlowsAt K t.bR Hb w.fl fns/\F∈fns/\F.name=f.fn/\n∈F2.nms F/\aZ f.kvs 0xC=⇑v/\∀H',aB H H'->Q v H'
abbrev FN (K:Kh) (t:Adr):Sp:=λvs H Q _=>∃(Hb:Hp) (w:Wr) (fs:List Fm) (oc:V) (sent:List V) (cn:Cn) (i:Nat),vs=[↥w.a,.int i]/\WA t Hb H w fs oc sent cn/\i<fs.length/\∀H',aB H H'->Q .non H'
abbrev zx (K:Kh) (t:Adr):Sp:=λvs H Q _=>∃(Hb:Hp) (w:Wr) (fs:List Fm) (oc:V) (sent:List V) (cn:Cn) (i:Nat) (f:Fm) (fns:List F2.Fd) (F:F2.Fd),vs=[↥w.a,.int i]/\WA t Hb H w fs oc sent cn/\fs[i]?=⇑f/\F2.FlowsAt K t.bR Hb w.fl fns/\F∈fns/\F.name=f.fn/\∀nl H',aB H H'->aG K H' nl ((F2.nms F).map V.str)->Q ↥nl H'
abbrev B' (K:Kh) (t:Adr):Sp:=λvs H Q _=>∃(Hb:Hp) (w:Wr) (fs:List Fm) (oc:V) (sent:List V) (cn:Cn) (i:Nat) (f:Fm) (n:Str) (fns:List F2.Fd) (F:F2.Fd),vs=[↥w.a,.int i,.str n]/\WA t Hb H w fs oc sent cn/\fs[i]?=⇑f/\F2.FlowsAt K t.bR Hb w.fl fns/\F∈fns/\F.name=f.fn/\n∈F2.nms F/\∀H',aB H H'->Q .non H'
abbrev EE (K:Kh) (t:Adr):Sp:=λvs H Q _=>∃(Hb:Hp) (w:Wr) (fs:List Fm) (oc:V) (sent:List V) (cn:Cn) (v:V),vs=[↥w.a,v]/\WA t Hb H w fs oc sent cn/\sent.length<1000000/\∀Hb' H' tp,aB Hb Hb'->WA t Hb' H' w fs oc (sent++[v]) cn->Hb' tp=⇑(.tup [.str "out",v])->Q ↥tp H'
abbrev BQ (K:Kh) (t:Adr):Sp:=λvs H Q _=>∃(x dx nd:Kg) (fn:Str),vs=[↥x,.str fn,↥nd]/\H x=⇑(.ins t.dW dx [])/\Q .non (upd H x (.ins t.dW dx (fF #[x,dx,nd,fn,(0),[]])))
abbrev DF (K:Kh) (t:Adr):Sp:=λvs H Q _=>∃(f:Fm) (v y:V),vs=[↥f.a,v]/\FrAt t.dW H f/\av f.kvs v=⇑y/\Q y H
abbrev Cf (K:Kh) (t:Adr):Sp:=λvs H Q _=>∃(x:V) (f:Fm),vs=[x,↥f.a]/\FrAt t.dW H f/\∀tp l,H tp=none->H l=none->l≠tp->Q ↥l (upd (upd H tp (gV f)) l (.lst [↥tp]))
abbrev C6 (K:Kh) (t:Adr):Sp:=λvs H Q _=>∃(Hb:Hp) (w:Wr) (fs:List Fm) (oc:V) (sent:List V) (cn:Cn) (i:Nat) (f:Fm),vs=[↥w.a,.int i]/\WA t Hb H w fs oc sent cn/\fs[i]?=⇑f/\∀tp H',H tp=none->aB H H'->H' tp=⇑(gV f)->Q ↥tp H'
abbrev zX (K:Kh) (t:Adr):Sp:=λvs H Q _=>∃(Hb:Hp) (w:Wr) (fs:List Fm) (oc:V) (sent:List V) (cn:Cn) (i:Nat) (f:Fm) (n:Str) (v:V),vs=[↥w.a,.int i,.str n]/\WA t Hb H w fs oc sent cn/\fs[i]?=⇑f/\aZ f.kvs 0xC=⇑v/\Q v H
abbrev Cy (K:Kh) (t:Adr):Sp:=λvs H Q _=>∃(Hb:Hp) (w:Wr) (fs:List Fm) (oc:V) (sent:List V) (cn:Cn) (f:Fm) (fns:List F2.Fd) (F:F2.Fd) (r:Rw),vs=[↥w.a,↥f.a]/\WA t Hb H w fs oc sent cn/\f∈fs/\F2.FlowsAt K t.bR Hb w.fl fns/\F∈fns/\F.name=f.fn/\F.rs[f.row]?=⇑r/\Q ↥r.r H
abbrev EV (K:Kh) (t:Adr):Sp:=λvs H Q _=>∃(Hb:Hp) (w:Wr) (fs:List Fm) (oc:V) (sent:List V) (cn:Cn) (f:Fm) (fns:List F2.Fd) (F:F2.Fd) (j r:Nat),vs=[↥w.a,↥f.a,.int j]/\WA t Hb H w (fs++[f]) oc sent cn/\F2.FlowsAt K t.bR Hb w.fl fns/\F∈fns/\F.name=f.fn/\f.row<F.rs.length/\cD F f.row j r/\∀H',WA t Hb H' w (fs++[{ f with row:=r }]) oc sent cn->Q .non H'
abbrev eI (F:F2.Fd) (vals:List V):List (aE×V):=(F.ps.zip vals).foldl (λd p=>aQ d (Sum.inr p.1:aE) p.2) (((F2.nms F).map λn=>(0xC,V.int 0)).foldl (λacc kv=>aQ acc kv.1 kv.2) [])
abbrev FO (K:Kh) (t:Adr):Sp:=λvs H Q _=>∃(Hb:Hp) (w:Wr) (fs:List Fm) (oc:V) (sent:List V) (cn:Cn) (fns:List F2.Fd) (F:F2.Fd) (ar:Kg) (vals:List V),vs=[↥w.a,.str F.name,↥ar]/\WA t Hb H w fs oc sent cn/\F2.FlowsAt K t.bR Hb w.fl fns/\F∈fns/\aG K Hb ar vals/\vals.length<=1000/\fs.length<=1000/\(F2.nms F).length<=1000/\F.ps.length<=1000 /\
 ∀Hb' H' f,aB Hb Hb'->WA t Hb' H' w (fs++[f]) oc sent cn->f.fn=F.name->f.row=0->f.kvs=eI F vals->Q .non H'
abbrev Dq (K:Kh) (t:Adr):Sp:=λvs H Q _=>∃(x dx p ar:Kg) (fns:List F2.Fd) (F:F2.Fd) (vals:List V),vs=[↥x,↥p,↥ar]/\H x=⇑(.ins t.bn dx [])/\aG K (ers x H) p (fns.map λf=>V.ref f.fa)/\fns≠[]/\fns.length<=12/\(∀f∈fns,F2.FnAt K (ers x H) f)/\(fns.map (·.name)).Nodup/\fns[fns.length - 1]?=⇑F/\aG K (ers x H) ar vals/\vals.length<=1000/\(F2.nms F).length<=1000/\F.ps.length<=1000 /\
 ∀Hb w f H',w.a=x->aB (ers x H) Hb->WA t Hb H' w [f] .non [] #[[],(0)]->F2.FlowsAt K t.bR Hb w.fl fns->hV K t.bR (ers x H) Hb w.fl fns->f.fn=F.name->f.row=0->f.kvs=eI F vals->Q .non H'
abbrev F' (K:Kh) (t:Adr):Sp:=λvs H Q _=>∃(Hb:Hp) (w:Wr) (fs:List Fm) (oc:V) (sent:List V) (cn:Cn) (f:Fm) (r:Kg) (rg:RG) (x:Str) (v:V),vs=[↥w.a,↥f.a,↥r]/\WA t Hb H w (fs++[f]) oc sent cn/\aN K H r rg.items/\((∃x a,rg=.copy x a)\/(∃x s a b,rg=.op x s a b)\/(∃x a fd,rg=.get x a fd))/\rg.gives f.kvs cn=⇑(x,v)/\∀H',aB H H'->Q v H'
abbrev CN (t:Adr) (Hb:Hp) (w:Wr) (fs:List Fm) (f:Fm) (oc:V) (sent:List V) (cn:Cn) (Q:VK):RG->Prop
 | .out a=>∃v,av f.kvs a=⇑v/\∀Hb' H' tp,aB Hb Hb'->WA t Hb' H' w (fs++[f]) oc (sent++[v]) cn->Hb' tp=⇑(.tup [.str "out",v])->Q ↥tp H'
 | .put a fd b=>∃i v,av f.kvs a=⇑(.int i)/\av f.kvs b=⇑v/\cn.kv.length<1000000/\∀Hb' H' tp,aB Hb Hb'->WA t Hb' H' w (fs++[f]) oc sent #[aQ cn.kv (fk i fd) v,cn.rc]->Hb' tp=⇑(.tup [.str "put",.int i,.str fd,v])->Q ↥tp H'
 | .new x=>∀Hb' H' tp,aB Hb Hb'->WA t Hb' H' w (fs++[{ f with kvs:=aQ f.kvs (Sum.inr x:aE) (.int (cn.rc+1)) }]) oc sent #[cn.kv,cn.rc+1]->Hb' tp=⇑(.tup [.str "new",.int (cn.rc+1)])->Q ↥tp H'
 | .copy x a=>∃y v,(RG.copy x a).gives f.kvs cn=⇑(y,v)/\∀Hb' H',aB Hb Hb'->WA t Hb' H' w (fs++[{ f with kvs:=aQ f.kvs (Sum.inr y:aE) v }]) oc sent cn->Q .non H'
 | .op x s a b=>∃y v,(RG.op x s a b).gives f.kvs cn=⇑(y,v)/\∀Hb' H',aB Hb Hb'->WA t Hb' H' w (fs++[{ f with kvs:=aQ f.kvs (Sum.inr y:aE) v }]) oc sent cn->Q .non H'
 | .get x a fd=>∃y v,(RG.get x a fd).gives f.kvs cn=⇑(y,v)/\∀Hb' H',aB Hb Hb'->WA t Hb' H' w (fs++[{ f with kvs:=aQ f.kvs (Sum.inr y:aE) v }]) oc sent cn->Q .non H'
 | _=>False
abbrev DZ (K:Kh) (t:Adr):Sp:=λvs H Q _=>∃(Hb:Hp) (w:Wr) (fs:List Fm) (oc:V) (sent:List V) (cn:Cn) (f:Fm) (r:Kg) (rg:RG),vs=[↥w.a,↥f.a,↥r]/\WA t Hb H w (fs++[f]) oc sent cn/\aN K Hb r rg.items/\sent.length<1000000/\f.kvs.length<1000000/\CN t Hb w fs f oc sent cn Q rg
abbrev tY (K:Kh) (t:Adr) (Hb:Hp) (w:Wr) (fs:List Fm) (oc:V) (sent:List V) (cn:Cn) (v:V) (Q:VK):Prop:=(fs=[]/\∀H',WA t Hb H' w [] v sent cn->Q .non H')\/∃(fs0:List Fm) (g:Fm) (fns:List F2.Fd) (G:F2.Fd) (rw:Rw) (its:List V) (x:Str) (r:Nat),fs=fs0++[g]/\F2.FlowsAt K t.bR Hb w.fl fns/\G∈fns/\G.name=g.fn/\G.rs[g.row]?=⇑rw/\aN K Hb rw.r its/\its[1]?=⇑(.str x)/\cD G g.row 0 r/\g.kvs.length<1000000/\∀H',WA t Hb H' w (fs0++[{ g with kvs:=aQ g.kvs (Sum.inr x:aE) v,row:=r }]) oc sent cn->Q .non H'
abbrev Aw (K:Kh) (t:Adr):Sp:=λvs H Q _=>∃(Hb:Hp) (w:Wr) (fs:List Fm) (oc:V) (sent:List V) (cn:Cn) (f:Fm) (v:V),vs=[↥w.a,v]/\WA t Hb H w (fs++[f]) oc sent cn/\tY K t Hb w fs oc sent cn v Q
abbrev qt (K:Kh) (t:Adr) (Hb:Hp) (w:Wr) (fs:List Fm) (f:Fm) (sent:List V) (cn:Cn) (fns:List F2.Fd) (F:F2.Fd) (Q:VK):RG->Prop
 | .back a=>∃v,av f.kvs a=⇑v/\tY K t Hb w fs .non sent cn v Q
 | .out a=>∃r,cD F f.row 0 r/\∃v,av f.kvs a=⇑v/\∀Hb' H' tp,aB Hb Hb'->WA t Hb' H' w (fs++[{ f with row:=r }]) .non (sent++[v]) cn->Hb' tp=⇑(.tup [.str "out",v])->Q ↥tp H'
 | .put a fd b=>∃r,cD F f.row 0 r/\∃i v,av f.kvs a=⇑(.int i)/\av f.kvs b=⇑v/\cn.kv.length<1000000/\∀Hb' H' tp,aB Hb Hb'->WA t Hb' H' w (fs++[{ f with row:=r }]) .non sent #[aQ cn.kv (fk i fd) v,cn.rc]->Hb' tp=⇑(.tup [.str "put",.int i,.str fd,v])->Q ↥tp H'
 | .new x=>∃r,cD F f.row 0 r/\∀Hb' H' tp,aB Hb Hb'->WA t Hb' H' w (fs++[{ f with kvs:=aQ f.kvs (Sum.inr x:aE) (.int (cn.rc+1)),row:=r }]) .non sent #[cn.kv,cn.rc+1]->Hb' tp=⇑(.tup [.str "new",.int (cn.rc+1)])->Q ↥tp H'
 | .copy x a=>∃r,cD F f.row 0 r/\∃y v,(RG.copy x a).gives f.kvs cn=⇑(y,v)/\∀Hb' H',aB Hb Hb'->WA t Hb' H' w (fs++[{ f with kvs:=aQ f.kvs (Sum.inr y:aE) v,row:=r }]) .non sent cn->Q .non H'
 | .op x s a b=>∃r,cD F f.row 0 r/\∃y v,(RG.op x s a b).gives f.kvs cn=⇑(y,v)/\∀Hb' H',aB Hb Hb'->WA t Hb' H' w (fs++[{ f with kvs:=aQ f.kvs (Sum.inr y:aE) v,row:=r }]) .non sent cn->Q .non H'
 | .get x a fd=>∃r,cD F f.row 0 r/\∃y v,(RG.get x a fd).gives f.kvs cn=⇑(y,v)/\∀Hb' H',aB Hb Hb'->WA t Hb' H' w (fs++[{ f with kvs:=aQ f.kvs (Sum.inr y:aE) v,row:=r }]) .non sent cn->Q .non H'
 | .call x g p as=>∃(G:F2.Fd) (vals:List V),G∈fns/\G.name=g/\aN K Hb p as/\as.length=vals.length/\(∀(i:Nat) a v,as[i]?=⇑a->vals[i]?=⇑v->av f.kvs a=⇑v)/\as.length<=100/\fs.length<=900/\(F2.nms G).length<=1000/\G.ps.length<=1000/\∀Hb' H' f',aB Hb Hb'->WA t Hb' H' w (fs++[f]++[f']) .non sent cn->f'.fn=G.name->f'.row=0->f'.kvs=eI G vals->Q .non H'
 | .ifs a=>∃(i:Int) (r:Nat),av f.kvs a=⇑(.int i)/\cD F f.row (if i≠0 then 0 else 1) r/\∀Hb' H',aB Hb Hb'->WA t Hb' H' w (fs++[{ f with row:=r }]) .non sent cn->Q .non H'
 | .whl a=>∃(i:Int) (r:Nat),av f.kvs a=⇑(.int i)/\cD F f.row (if i≠0 then 0 else 1) r/\∀Hb' H',aB Hb Hb'->WA t Hb' H' w (fs++[{ f with row:=r }]) .non sent cn->Q .non H'
abbrev tV (K:Kh) (t:Adr):Sp:=λvs H Q _=>∃(Hb:Hp) (w:Wr) (fs:List Fm) (f:Fm) (sent:List V) (cn:Cn) (fns:List F2.Fd) (F:F2.Fd) (r:Rw) (rg:RG),vs=[↥w.a]/\WA t Hb H w (fs++[f]) .non sent cn/\F2.FlowsAt K t.bR Hb w.fl fns/\F∈fns/\F.name=f.fn/\F.rs[f.row]?=⇑r/\aN K Hb r.r rg.items/\sent.length<1000000/\f.kvs.length<1000000/\qt K t Hb w fs f sent cn fns F Q rg
abbrev zT (K:Kh) (t:Adr):Sp:=tV K t
def ay (h:n<1000000):n<sizeLine:=by
 have:(1000000:Nat)<sizeLine:=by decide
 lia
def zj (f:Str) (v:V):(c8 f v []).length<1000:=by show 1<1000; decide
def CY (f g:Str) (v u:V):(c8 g u (c8 f v [])).length<1000:=by
 have:=iw g u (c8 f v []);have:=iw f v [];simp at *
 lia
def df (f:Str) (v:V) (l:List (Str×V)) (n:Nat) (h:l.length<=n):(c8 f v l).length<=n+1:=Hf (iw f v l) ∅
def uj (ss:List Str):(ss.map V.str).all eY=true:=by rw[Jh];intro v hv;let#[s,_,rfl]:=HX.mp hv;rfl
def ze {n:Str} {ss:List Str} (h:n∈ss):(if true=true then !cS (.str n) (ss.map V.str) else cS (.str n) (ss.map V.str))=false:=by
 have:cS (.str n) (ss.map V.str)=true:=by unfold cS;rw[Jl];show#[.str n,HX.mpr #[n,h,rfl],by show(n==n)=true; simp]
 rw[this];rfl
def ym {l:List Nat} {j:Nat}(h:l[j]?=⇑r):bD (K13.natsV l) (j:Int)=⇑(.int r):=dO (by unfold K13.natsV; rw[HV,h]; rfl)
def at_end (fs:List Fm) (f:Fm):bD ((fs++[f]).map λf=>V.ref f.a) (-1)=⇑↥f.a:=by rw[Gy];exact jI _ _
def mj (n:Int):oU n 3:=by unfold oU; decide
def GY (xs:List V):cR xs (some 1) none=xs.drop 1:=by
 unfold cR HT.sIx;simp only;rw[Gu #[]];by_cases h:1<=xs.length
 . rw[show min (1:Int).toNat xs.length=1 by lia];rw[IZ (by rw[Jg]; lia)]
 . rw[show min (1:Int).toNat xs.length=xs.length by lia];rw[Jf (Gw _),Jf ∅];simp
abbrev Cz (K:Kh):Sp:=λvs H Q _=>∃(a:Kg) (ns:List Int) (k:Int),vs=[↥a,.int k]/\aG K H a (ns.map V.int)/\ns.length<=63/\0<=k/\∀z,Q (.int z) H
abbrev DN (K:Kh):Sp:=λvs H Q _=>∃(c:Int) (m:Nat),vs=[.int c,.int m]/\m<=100/\∀l H' (ns:List Int),H l=none->aB H H'->H' l=⇑(.lst (ns.map V.int))->ns.length=m->(∀n∈ns,0<=n)->Q ↥l H'
abbrev c6 (i:Int):Prop:=0<=i/\i<K21.wide
abbrev zq (K:Kh):Sp:=λvs H Q _=>∃(n:Int),vs=[.int n]/\∀v,c6 v->Q (.int v) H
abbrev sI (ns:List Str) (v:V):Prop:=(∃i,v=.int i/\c6 i)\/∃s,v=.str s/\s∈ns
def yi (l:List V) (y:V):cR (l++[y]) ⇑(-1) none=[y]:=by
 have h:HT.sIx (l++[y]).length 0 ⇑(-1)=l.length:=by
   show((-1:Int)+((l++[y]).length:Int)).toNat=_;rw[Gv,Hr]
   lia
 unfold cR;rw[h,List.drop_left];show List.take ((l++[y]).length - l.length) [y]=[y];rw[Gv];exact IZ 0xA
def lP (xs:List V) (h0:0<=z) (h1:z<=xs.length):cR xs none ⇑z=xs.take z.toNat:=by
 unfold cR;have e:HT.sIx xs.length xs.length ⇑z=z.toNat:=by
   obtain⟨k,rfl⟩:∃k:Nat,z=(k:Int):=#[z.toNat,∅]
   rw[HT.sIx_nat]
   lia
 rw[e];show(xs.drop 0).take (z.toNat - 0)=_;simp
def lx {X:Cx} {L:List Stmt} {R:TS->Prop} (f:let XX:=X; ∃t,aV XX L t/\R t):∃t,aV X L t/\R t:=f
abbrev fI:List Str:=["+","-","*","/","<","=","&","|","^"]
def gi (s:Str) (ws:List Str):cS (.str s) (ws.map V.str)=decide (s∈ws):=by
 unfold cS;rw[List.any_map]
 induction ws with
 | nil=>rfl
 | cons y ws ih =>
   rw[JE,ih];show((y==s) || _)=_;by_cases h:y=s
   . subst h; simp
   . have h':¬ s=y:=λz=>h z.symm;rw[beq_false_of_ne h,Bool.false_or];exact decide_eq_decide.mpr #[λz=>Gz _ z,λz=>(HM.mp z).resolve_left h']
abbrev Dn (K:Kh):Sp:=λvs H Q _=>∃(a wl:Kg) (ks ws:List Str) (k b r:Nat),vs=[↥a,.int k,↥wl]/\K13.RowsAt K H a ks/\K13.Wf ks/\aG K H wl (ws.map V.str)/\k<ks.length/\ks.length<=1000/\b<=k/\K13.At ks b (k+1) 1/\k<r/\((ws=(["end"]:List Str)/\K13.Ends ks b r)\/(ws=(["end","else"]:List Str)/\K13.First ks b r))/\∀H',aB H H'->Q (.int r) H'
abbrev F0 (K:Kh):Sp:=λvs H Q _=>∃(a:Kg) (ks:List Str) (k b:Nat),vs=[↥a,.int k]/\K13.RowsAt K H a ks/\K13.Wf ks/\k<ks.length/\ks.length<=1000/\(K13.stk ks k).head?=⇑b/\∀H',aB H H'->Q (.int b) H'
abbrev zA (K:Kh):Sp:=λvs H Q _=>∃(a:Kg) (ks:List Str) (k r:Nat),vs=[↥a,.int ((k+1:Nat):Int)]/\K13.RowsAt K H a ks/\K13.Wf ks/\k+1<ks.length/\ks.length<=1000/\K13.Beh ks k r/\∀H',aB H H'->Q (.int r) H'
abbrev Cd (K:Kh):Sp:=λvs H Q _=>∃(v u:V) (d:Kg) (kvs:List (aE×V)),vs=[v,↥d]/\H d=⇑(.dK kvs)/\Wk.av kvs v=⇑u/\Q u H
abbrev FB (K:Kh):Sp:=λvs H Q _=>∃(s:Str) (i j:Int),vs=[.str s,.int i,.int j]/\s∈fI/\0<=i/\i<K21.wide/\0<=j/\j<K21.wide/\∀H',aB H H'->Q (.int (K21.valOf s i j)) H'
abbrev By (K:Kh):Sp:=λvs H Q _=>∃(i:Int),vs=[.int i]/\Q (.bl true) H
abbrev gm:Int->List Int->List Int
 | _,[]=>[]
 | n,z::zs=>n%z::gm (n / z) zs
abbrev jv:Int->List Int->Int
 | n,[]=>n
 | n,z::zs=>jv (n / z) zs
def rL:∀(n:Int) (zs:List Int) (z:Int),gm n (zs++[z])=gm n zs++[jv n zs%z]
 | _,[],_=>rfl
 | n,y::zs,z=>HY (n%y::·) (rL (n / y) zs z)
def sf:∀(n:Int) (zs:List Int) (z:Int),jv n (zs++[z])=jv n zs / z
 | _,[],_=>rfl
 | n,y::zs,z=>sf (n / y) zs z
def rJ:∀(n:Int) (zs:List Int),(gm n zs).length=zs.length
 | _,[]=>rfl
 | n,y::zs=>HY (·+1) (rJ (n / y) zs)
abbrev BZ (K:Kh):Sp:=λvs H Q _=>∃(n:Int) (a:Kg) (zs:List Int),vs=[.int n,↥a]/\aG K H a (zs.map V.int)/\(∀z∈zs,0<z/\z<2 ^ 64)/\zs.length<=10/\∀l H',H l=none->aB H H'->H' l=⇑(.lst ((gm n zs).map V.int))->Q ↥l H'
structure PolOk (ns:List Str):Prop where
 nd:ns.Nodup
 ok:∀n∈ns,∃cs:List Nat,n=tx cs/\(∀c∈cs,97<=c/\c<=122)/\0<cs.length/\cs.length<=8
def yw (h0:0<=z) (h1:z<5):∃g,bD ("qxzjw":Str).cps.toList z=⇑g/\97<=g/\g<=122:=by
 have hl:("qxzjw":Str).cps.toList.length=5:=by decide +kernel
 let#[g,hg,hm]:=gR (xs:=("qxzjw":Str).cps.toList) h0 (by rw[hl]; exact h1);have key:∀g∈("qxzjw":Str).cps.toList,97<=g/\g<=122:=by decide +kernel
 show#[g,hg,key g hm]
abbrev fQ (f a b:Nat) (d:Int) (k:Nat):List Nat:=List.replicate a f++(97+((d+(k:Int))%26).toNat)::List.replicate b f
def BN {f a b:Nat} {d:Int} {j k:Nat} (hj:j<26) (hk:k<26) (h:fQ f a b d j=fQ f a b d k):j=k:=by
 unfold fQ at h;rw[List.append_cancel_left_eq,List.cons.injEq] at h
 lia
def D1 {f a b:Nat} {d:Int} {k:Nat} (hf:97<=f/\f<=122):∀c∈fQ f a b d k,97<=c/\c<=122:=λc hc=>by
 unfold fQ at hc;rcases HW.mp hc with h|h
 . rw[(J9.mp h).2]; exact hf
 . rcases HM.mp h with h|h
   . rw[h]; lia
   . rw[(J9.mp h).2]; exact hf
def tZ (f a b:Nat) (d:Int) (k:Nat):(fQ f a b d k).length=a+b+1:=by
 unfold fQ;rw[Gv,Hs,IH,IH]
 lia
abbrev CQ (K:Kh):Sp:=λvs H Q _=>∃(c:Int) (m:Nat),vs=[.int c,.int m]/\m<=26/\∀l H' ns,H l=none->aB H H'->H' l=⇑(.lst (ns.map V.str))->ns.length=m->PolOk ns->Q ↥l H'
abbrev cp (ns:List Str) (v:V):Prop:=(∃i:Int,v=.int i/\0<=i/\i<281474976710656)\/∃s,v=.str s/\s∈ns
abbrev Eg (K:Kh):Sp:=λvs H Q _=>∃(n:Int) (a:Kg) (ns:List Str) (m:Nat),vs=[.int n,↥a,.int m]/\aG K H a (ns.map V.str)/\ns.length<=100/\m<=10/\∀l tp H' us n',H tp=none->H l=none->aB H H'->H' l=⇑(.lst us)->H' tp=⇑(.tup [↥l,.int n'])->us.length=m->(∀v∈us,cp ns v)->Q ↥tp H'
def tM {x B:Int} (h0:0<=x) (h1:x<B+1000000000) (hB:B<2 ^ 600) {j:Int} (j0:0<=j) (j1:j<=1000):tj x j:=by
 show#[j0,j1,?_];have h2:(2:Int) ^ 600+1000000000<((2 ^ 1000:Nat):Int):=by decide +kernel
 generalize (2:Int) ^ 600=P at hB h2;generalize (2:Nat) ^ 1000=R at h2 ⊢
 lia
abbrev yM (K:Kh):Sp:=λvs H Q _=>∃(a:Kg) (ns:List Int),vs=[↥a]/\aG K H a (ns.map V.int)/\ns.length<=100/\∀l H' (ms:List Int),H l=none->aB H H'->H' l=⇑(.lst (ms.map V.int))->ms.length=ns.length->Q ↥l H'
structure Shp where
 a:Addr
 nm:Str
 fo:Bool
 pa:Addr
 ps:List Str
structure ShAt (K:W.Frag) (H:Hp) (s:Shp):Prop where
 it:aN K H s.a [.str s.nm,.bl s.fo,↥s.pa]
 pr:aN K H s.pa (s.ps.map V.str)
 l6:s.ps.length<=6
abbrev mP (ns fs:List Str) (shs:List Shp):RG->Prop
 | .out a=>cp ns a
 | .copy x a=>x∈ns/\cp ns a
 | .op x s a b=>x∈ns/\s∈fI/\cp ns a/\cp ns b
 | .new x=>x∈ns
 | .get x a f=>x∈ns/\cp ns a/\f∈fs
 | .put a f b=>cp ns a/\f∈fs/\cp ns b
 | .call x g _ as=>x∈ns/\(∃sh∈shs,sh.nm=g/\as.length=sh.ps.length)/\∀a∈as,cp ns a
 | _=>False
def CZ (h0:0<=z) (h1:z<9):∃g,bD ("+-*/<=&|^":Str).cps.toList z=⇑g/\(#[(List.toArray [g])]:Str)∈fI:=by
 have hl:("+-*/<=&|^":Str).cps.toList.length=9:=by decide +kernel
 let#[g,hg,hm]:=gR (xs:=("+-*/<=&|^":Str).cps.toList) h0 (by rw[hl]; exact h1);have key:∀g∈("+-*/<=&|^":Str).cps.toList,(⟨(List.toArray [g])⟩:Str)∈fI:=by decide +kernel
 show#[g,hg,key g hm]
open Wh
abbrev yh (K:Kh):Sp:=λvs H Q _=>∃(n:Int) (nl fl sl:Kg) (ns fs:List Str) (shs:List Shp),vs=[.int n,↥nl,↥fl,↥sl]/\aG K H nl (ns.map V.str)/\0<ns.length/\ns.length<=24/\aG K H fl (fs.map V.str)/\0<fs.length/\fs.length<=100/\aG K H sl (shs.map λs=>V.ref s.a)/\0<shs.length/\shs.length<=100/\(∀s∈shs,ShAt K H s)/\∀tp H' rg,H tp=none->aB H H'->RGAt K H' tp rg->mP ns fs shs rg->Q ↥tp H'
abbrev gI (ns fs:List Str) (shs:List Shp) (lst:V):RH->Prop
 | .rg (.back a)=>cp ns a\/a=lst
 | .rg (.ifs a)=>cp ns a
 | .rg (.whl a)=>cp ns a
 | .rg r=>mP ns fs shs r
 | _=>True
structure RowsH (K:W.Frag) (H:Hp) (rs:List Addr) (rhs:List RH):Prop where
 len:rs.length=rhs.length
 at_:∀(i:Nat) r rh,rs[i]?=⇑r->rhs[i]?=⇑rh->RHAt K H r rh
def RowsH.mono {H H':Hp} {rs:List Kg} {rhs:List RH} (h:RowsH K H rs rhs) (e:aB H H'):RowsH K H' rs rhs:=#[h.len,λi r rh h1 h2=>(h.at_ i r rh h1 h2)*>e]
def RowsH.snoc {rs:List Kg} {rhs:List RH} {r:Kg} (h:RowsH K H rs rhs) (hr:RHAt K H r rh):RowsH K H (rs++[r]) (rhs++[rh]):=by
 have hl:=h.len;show#[by rw[Gv,Gv,hl]; rfl,λi r' rh' h1 h2=>?_];rcases Hk i rs.length with hi|hi
 . rw[IB hi] at h1;rw[IB ∅] at h2;exact h.at_ i _ _ h1 h2
 . rw[II hi] at h1;rw[II ∅] at h2;have e:i - rs.length=0:=by have:=(Gq.mp h1).1; simpa using this
   rw[e] at h1;rw[show i - rhs.length=0 by lia] at h2;cases h1;cases h2;exact hr
def RowsH.lst {H:Hp} {q:Kg} {l:List V} {o:HO} {rs:List Kg} {rhs:List RH} (h:RowsH K H rs rhs) (hq:H q=⇑(.lst l)):RowsH K (upd H q o) rs rhs:=#[h.len,λi r rh h1 h2=>(h.at_ i r rh h1 h2).lst hq]
def RowsH.rep {H:Hp} {rs:List Kg} {rhs:List RH} {t:Kg} {rh:RH} (h:RowsH K H rs rhs) (ht:RHAt K H t rh):∀n,RowsH K H (rs++List.replicate n t) (rhs++List.replicate n rh)
 | 0=>by simpa using h
 | n+1=>by have:=(RowsH.rep h ht n).snoc ht;rw[Iv,Iv] at this;rw[List.replicate_succ',List.replicate_succ'];exact this
def CO {x:Str} (g:K13.Good (ks++[x]) []) (hx:x="back"):K13.Wf (ks++[x]):=#[g.open_,g.els,J6.mp g.len,(λi h=>by
 have:i=ks.length:=by rw[Gv] at h; simpa using h
 rw[this,K13.kd_last,hx]),by rw[Gv]; exact Nat.succ_pos _]
def zw (os:List Str):cR (K13.opsV os) ⇑(-1) none=os.head?.toList.map V.str:=by
 cases os with
 | nil=>decide
 | cons o r=>rw[K13.opsV_cons,yi]; rfl
def zF (os:List Str):PyData.eqv (.list (K13.strsD os.head?.toList)) (.list (K13.strsD [("if":Str)]))=decide (os.head?=⇑("if":Str)):=by
 cases os with
 | nil=>decide
 | cons o r =>
   by_cases h:o="if"
   . subst h;rw[show decide ((("if":Str)::r).head?=⇑("if":Str))=true from HJ rfl];exact K12.eqv_strs ["if"]
   . rw[show decide ((o::r).head?=⇑("if":Str))=false from Hg λz=>h (Option.some.inj z)];show PyData.eqv (.list [PyData.str o]) (.list [PyData.str "if"])=false;simp [PyData.eqv,PyData.eqvAll,h]
abbrev dw (K:Kh) (H:Hp) (cl nl fl sl l o:Kg) (lst:V) (ns fs:List Str) (shs:List Shp) (i:Nat) (σ:St) (H2:Hp):Prop:=aB H H2/\∃(rs:List Kg) (rhs:List RH) (os:List Str) (v7 v8 v9 v10:Kd V),σ=[⇑↥cl,⇑↥nl,⇑↥fl,⇑↥sl,⇑lst,⇑↥l,⇑↥o,v7,v8,v9,v10]/\H2 l=⇑(.lst (rs.map V.ref))/\RowsH K H2 rs rhs/\H2 o=⇑(.lst (K13.opsV os))/\K13.Good (rhs.map RH.kind) os/\rhs.length=i/\(∀s∈os,K13.Nm s)/\∀rh∈rhs,gI ns fs shs lst rh
def dw.close {H6:Hp}{cl nl fl l o r:Kg}{lst:V} {fs:List Str}{shs:List Shp} {rs:List Kg} {rhs:List RH} {os:List Str} {v7 v8 v9 v10:Kd V} (hl0:H l=none) (hne:l≠o) (s:aB H H6) (hL:H6 l=⇑(.lst (rs.map V.ref))) (hR:RowsH K H6 rs rhs) (hr:RHAt K H6 r rh) (hO:H6 o=⇑(.lst (K13.opsV os))) (g:K13.Good (rhs.map RH.kind++[rh.kind]) os) (hn:∀s∈os,K13.Nm s) (hok:∀rh∈rhs,gI ns fs shs lst rh) (hk:gI ns fs shs lst rh) :
   dw K H cl nl fl sl l o lst ns fs shs (rhs.length+1) [⇑↥cl,⇑↥nl,⇑↥fl,⇑↥sl,⇑lst,⇑↥l,⇑↥o,v7,v8,v9,v10] (upd H6 l (.lst (rs.map V.ref++[V.ref r]))):=by
 show#[s.upd hl0,rs++[r],rhs++[rh],os,v7,v8,v9,v10,rfl,?_,(hR.snoc hr).lst hL,by rw[aJ hne.symm]; exact hO,?_,by rw[Gv]; rfl,hn,λx hx=>?_]
 . rw[aI,Gy];rfl
 . rw[Gy];exact g
 . rcases HW.mp hx with h|h
   . exact hok x h
   . rw[HG.mp h]; exact hk
def sM:K13.Nm "if":=by unfold K13.Nm; decide +kernel
def Gb:K13.Nm "while":=by unfold K13.Nm; decide +kernel
def qu (k:Int):cS (.int k) [V.int 4,V.int 5]=decide (k=4\/k=5):=by
 show((4:Int)==k || ((5:Int)==k || false))=_;by_cases h4:k=4
 . subst h4; rfl
 . by_cases h5:k=5
   . subst h5; rfl
   . have a:((4:Int)==k)=false:=beq_false_of_ne λz=>h4 z.symm;have b:((5:Int)==k)=false:=beq_false_of_ne λz=>h5 z.symm;rw[a,b,Hg (λz=>z.elim h4 h5)];rfl
def ShAt.mono {s:Shp} (h:ShAt K H s) (e:aB H H'):ShAt K H' s:=#[e<*h.it,e<*h.pr,h.l6]
def oG {os fs:List Str}{shs:List Shp} {rg:RG} (g:K13.Good ks os) (h:mP ns fs shs rg):K13.Good (ks++[(RH.rg rg).kind]) os:=by have c:=zo (rg:=rg) (λa z=>by subst z; exact h) (λa z=>by subst z; exact h);exact g.plain c.1 c.2.1 c.2.2.1
def my {fs:List Str}{shs:List Shp} {lst:V} {rg:RG} (h:mP ns fs shs rg):gI ns fs shs lst (.rg rg):=by
 cases rg with
 | back a=>exact h.elim
 | ifs a=>exact h.elim
 | whl a=>exact h.elim
 | _=>exact h
abbrev El (K:Kh):Sp:=λvs H Q _=>∃(cl nl fl sl:Kg) (cs:List Int) (ns fs:List Str) (shs:List Shp) (lst:V),vs=[↥cl,↥nl,↥fl,↥sl,lst]/\aG K H cl (cs.map V.int)/\cs.length<=30/\aG K H nl (ns.map V.str)/\0<ns.length/\ns.length<=24/\aG K H fl (fs.map V.str)/\0<fs.length/\fs.length<=100/\aG K H sl (shs.map λs=>V.ref s.a)/\0<shs.length/\shs.length<=100/\(∀s∈shs,ShAt K H s)/\∀tr H' rs rhs,H tr=none->aB H H'->H' tr=⇑(.tup (rs.map V.ref))->RowsH K H' rs rhs->K13.Wf (rhs.map RH.kind)->rhs.length<=61->(∀rh∈rhs,gI ns fs shs lst rh)->Q ↥tr H'
structure Pf where
 a:Addr
 nm:Str
 fo:Bool
 pa:Addr
 ps:List Str
 ra:Addr
 rs:List Addr
 rhs:List RH
structure PfAt (K:W.Frag) (H:Hp) (f:Pf):Prop where
 it:aN K H f.a [.str f.nm,.bl f.fo,↥f.pa,↥f.ra]
 pr:aN K H f.pa (f.ps.map V.str)
 rt:aN K H f.ra (f.rs.map V.ref)
 rw_:RowsH K H f.rs f.rhs
 l6:f.ps.length<=6
 small:f.rhs.length<=61
def PfAt.mono {H H':Hp} {f:Pf} (h:PfAt K H f) (e:aB H H'):PfAt K H' f:=#[e<*h.it,e<*h.pr,e<*h.rt,h.rw_*>e,h.l6,h.small]
abbrev sQ (fs:List Pf):Prop:=∀f∈fs,∀rh∈f.rhs,∀x g p as,rh=.rg (.call x g p as)->∃f'∈fs,f'.nm=g/\as.length=f'.ps.length
def sT (h:rh.kind="call"):∃x g p as,rh=.rg (.call x g p as):=by
 have key:∀k∈([("out":Str),"copy","op","back","new","get","put","if","while","else","end"]:List Str),¬ k="call":=by decide +kernel
 cases rh with
 | els=>exact absurd h (key "else" 0xA)
 | fin=>exact absurd h (key "end" 0xA)
 | rg r =>
   cases r with
   | call x g p as=>show#[x,g,p,as,rfl]
   | _=>exact absurd h (key _ (by simp [RH.kind,RG.kind]))
abbrev Fg (K:Kh):Sp:=λvs H Q _=>∃(pl:Kg) (fs:List Pf),vs=[↥pl]/\aG K H pl (fs.map λf=>V.ref f.a)/\0<fs.length/\fs.length<=40/\(∀f∈fs,PfAt K H f)/\sQ fs/\∀l H' (ms:List Int),H l=none->aB H H'->H' l=⇑(.lst (ms.map V.int))->ms.length=fs.length->Q ↥l H'
def E8 {d:Kg} {kvs:List (aE×V)} {o:Obj} {n:Str} (h:H d=⇑(.frz o (.dK kvs))) (hv:aZ kvs 0xC=⇑v):cX H d (.str n) ⇑v:=by have:cX H d (kV 0xC) (aZ kvs 0xC):=.inl #[kvs,Sum.inr n,.inr #[o,h],7];rw[hv] at this;exact this
def nT {kvs:List (aE×V)} {k:aE} {kv:aE×V} (h:kv∈aQ kvs k v):kv=(k,v)\/(kv∈kvs/\kv.1≠k):=by
 unfold aQ at h;split at h
 . let#[u,hu,e]:=HX.mp h;by_cases z:u.1=k
   . rw[HI z] at e;exact .inl (by rw[<- e,z])
   . rw[Gu z] at e;subst e;exact .inr #[hu,z]
 . rename_i hn
   rcases HW.mp h with h|h
   . refine .inr #[h,λz=>hn ?_];rw[Jl];show#[kv,h,HJ z]
   . exact .inl (HG.mp h)
def AW {x dx:Kg} {o1 o2:HO} (hx:H x=none) (hdx:H dx=none):aB H (ers x (upd (upd H dx o1) x o2)):=λb o hb=>by
 have n1:b≠x:=λz=>by rw[z,hx] at hb; cases hb
 have n2:b≠dx:=λz=>by rw[z,hdx] at hb; cases hb
 rw[cy n1,aJ n1,aJ n2];exact hb
def FR (h:sI ns v) (hn:∀s∈ns,K12.Nm s):K12.Atom v:=by
 rcases h with⟨i,rfl,_⟩|⟨s,rfl,hs⟩
 . exact .inr #[i,rfl]
 . exact .inl #[s,rfl,hn s hs]
open Wh
structure Fh (K:W.Frag) (H:Hp) (F:F2.Fd) (rgs:List RH):Prop where
 at_:F2.FnAt K H F
 len:F.rs.length=rgs.length
 row:∀(k:Nat) rw rg,F.rs[k]?=⇑rw->rgs[k]?=⇑rg->RHAt K H rw.r rg
 nm:∀x,x∈F2.nms F <-> x∈F.ps\/x∈eC rgs
 nl:(F2.nms F).length<=900
 pl:F.ps.length<=6
 kds:F2.kds F=rgs.map RH.kind
 wf:K13.Wf (rgs.map RH.kind)
 vl:∀rg∈rgs,∀v∈rg.parts,(∃i,v=.int i/\c6 i)\/∃n,v=.str n
 small:rgs.length<=100
 sn:PyData.strOk F.name=true
 ok:∀rg∈rgs,rg.Ok
def Fh.mono {H H':Hp} {F:F2.Fd} {rgs:List RH} (h:Fh K H F rgs) (e:aB H H'):Fh K H' F rgs:=#[h.at_*>e,h.len,λk rw rg h1 h2=>(h.row k rw rg h1 h2)*>e,h.nm,h.nl,h.pl,h.kds,h.wf,h.vl,h.small,h.sn,h.ok]
def Fh.atom (h:Fh K H F rgs) {rg:RH} (hr:rg∈rgs) (hv:v∈rg.parts):(∃i,v=.int i/\c6 i)\/∃n,v=.str n/\n∈F2.nms F:=by
 rcases h.vl rg hr v hv with h1|⟨n,rfl⟩
 . exact .inl h1
 . refine .inr #[n,rfl,(h.nm n).mpr (.inr ?_)];unfold eC;rw[KR];show#[rg,hr,ny.mpr hv]
abbrev Da (K:Kh):Sp:=λvs H Q _=>∃(r:Kg) (rg:RH),vs=[↥r]/\RHAt K H r rg/\(∀x g p as,rg=.rg (.call x g p as)->as.length<=10)/\∀l H',H l=none->aB H H'->H' l=⇑(.lst rg.parts)->Q ↥l H'
structure Alk (F:F2.Fd) (k1 k2:List (aE×V)):Prop where
 v:∀n∈F2.nms F,∃i,c6 i/\aZ k1 0xC=⇑(.int i)/\aZ k2 0xC=⇑(.int i)
 k:∀kv∈k2,∃n,kv.1=0xC/\n∈F2.nms F
 l:k1.length<=2000/\k2.length<=2000
abbrev cO (d:List (aE×V)) (v:V):List (aE×V):=match v with
 | .str s=>aQ d (Sum.inr s:aE) (.int 0)
 | _=>d
abbrev iQ (rgs:List RH) (ps:List Str) (vals:List V):List (aE×V):=(ps.zip vals).foldl (λd p=>aQ d (Sum.inr p.1:aE) p.2) (rgs.foldl (λd rg=>(RH.parts rg).foldl cO d) [])
def Eo (d:List (aE×V)) (v:V):(cO d v).length<=d.length+1:=by
 unfold cO;split
 . exact dN _ _ _
 . lia
def oP:∀(vs:List V) (d:List (aE×V)),(vs.foldl cO d).length<=d.length+vs.length
 | [],d=>by simp
 | v::vs,d=>by
   rw[Hv,Hs];have h1:=oP vs (cO d v);have h2:=Eo d v
   lia
def kf:∀(rgs:List RH) (d:List (aE×V)),(∀rg∈rgs,rg.Ok)->(rgs.foldl (λd rg=>(RH.parts rg).foldl cO d) d).length<=d.length+11 * rgs.length
 | [],d,_=>by simp
 | rg::rgs,d,ok=>by
   rw[Hv,Hs];have h1:=kf rgs ((RH.parts rg).foldl cO d) λr hr=>ok r (Gz _ hr);have h2:=oP (RH.parts rg) d;have h3:=nR (ok rg HH)
   lia
def rF {F:F2.Fd} (P:Str->Prop) (hP:∀n,P n->n∈F2.nms F):∀(vs:List V) (d:List (aE×V)),(∀s,V.str s∈vs->P s)->(∀kv∈d,∃n,kv=(0xC,V.int 0)/\P n/\aZ d 0xC=⇑(.int 0))->(∀kv∈vs.foldl cO d,∃n,kv=(0xC,V.int 0)/\P n/\aZ (vs.foldl cO d) 0xC=⇑(.int 0))/\∀n,(V.str n∈vs\/aZ d 0xC=⇑(.int 0))->aZ (vs.foldl cO d) 0xC=⇑(.int 0)
 | [],d,_,h2=>#[h2,λn h=>h.elim (λz=>by cases z) id]
 | v::vs,d,h1,h2=>by
   rw[Hv];have step:(∀kv∈cO d v,∃n,kv=(0xC,V.int 0)/\P n/\aZ (cO d v) 0xC=⇑(.int 0))/\∀n,(V.str n=v\/aZ d 0xC=⇑(.int 0))->aZ (cO d v) 0xC=⇑(.int 0):=by
     cases v with
     | str s =>
       show(∀kv∈aQ d (Sum.inr s:aE) (.int 0),∃n,kv=(0xC,V.int 0)/\P n/\aZ (aQ d (Sum.inr s:aE) (.int 0)) 0xC=⇑(.int 0))/\∀n,(V.str n=.str s\/aZ d 0xC=⇑(.int 0))->aZ (aQ d (Sum.inr s:aE) (.int 0)) 0xC=⇑(.int 0);show#[λkv hkv=>?_,λn hn=>?_]
       . rcases nT hkv with rfl|⟨h,hk⟩
         . show#[s,rfl,h1 s 0xA,by rw[dj,HI rfl]]
         . let#[n,rfl,h3,h4]:=h2 kv h;show#[n,rfl,h3,by rw[dj,Gu hk]; exact h4]
       . rw[dj];by_cases z:0xC=Sum.inr s
         . rw[HI z]
         . rw[Gu z];rcases hn with hn|hn
           . cases hn; exact absurd rfl z
           . exact hn
     | _=>show#[h2,λn hn=>hn.elim (λz=>by cases z) id]
   have:=rF P hP vs (cO d v) (λs hs=>h1 s (Gz _ hs)) step.1;show#[this.1,λn hn=>this.2 n ?_];rcases hn with hn|hn
   . rcases HM.mp hn with hn|hn
     . exact .inr (step.2 n (.inl hn))
     . exact .inl hn
   . exact .inr (step.2 n (.inr hn))
def ur {F:F2.Fd} (P:Str->Prop) (hP:∀n,P n->n∈F2.nms F):∀(rvs:List RH) (d:List (aE×V)),(∀rv∈rvs,∀s,V.str s∈RH.parts rv->P s)->(∀kv∈d,∃n,kv=(0xC,V.int 0)/\P n/\aZ d 0xC=⇑(.int 0))->(∀kv∈rvs.foldl (λd rv=>(RH.parts rv).foldl cO d) d,∃n,kv=(0xC,V.int 0)/\P n/\aZ (rvs.foldl (λd rv=>(RH.parts rv).foldl cO d) d) 0xC=⇑(.int 0))/\∀n,((∃rv∈rvs,V.str n∈RH.parts rv)\/aZ d 0xC=⇑(.int 0))->aZ (rvs.foldl (λd rv=>(RH.parts rv).foldl cO d) d) 0xC=⇑(.int 0)
 | [],d,_,h2=>#[h2,λn h=>h.elim (λz3_=>by let#[_,z,_]:=z3_; cases z) id]
 | rv::rvs,d,h1,h2=>by
   rw[Hv];have s:=rF P hP (RH.parts rv) d (h1 rv HH) h2;have:=ur P hP rvs _ (λr hr=>h1 r (Gz _ hr)) s.1;show#[this.1,λn hn=>this.2 n ?_];rcases hn with⟨r,hr,hn⟩|hn
   . rcases HM.mp hr with rfl|hr
     . exact .inr (s.2 n (.inl hn))
     . exact .inl #[r,hr,hn]
   . exact .inr (s.2 n (.inr hn))
def oR {ps:List Str} {p:Str×V} (h:p∈ps.zip vals):p.1∈ps/\p.2∈vals:=by let#[a,b]:=p;show#[(JH h).1,(JH h).2]
def jz (n:Str):∀(l:List (Str×V)) (d:List (aE×V)),aZ (l.foldl (λd p=>aQ d (Sum.inr p.1:aE) p.2) d) 0xC=l.foldl (λacc p=>if n=p.1 then ⇑p.2 else acc) (aZ d 0xC)
 | [],d=>rfl
 | p::l,d=>by
   rw[Hv,Hv,jz n l,dj];congr 1;by_cases z:n=p.1
   . rw[HI z,HI (by rw[z])]
   . rw[Gu z,Gu (by intro y; exact z (Sum.inr.inj y))]
def nQ (P:V->Prop) (n:Str):∀(l:List (Str×V)) (o:V),P o->(∀p∈l,P p.2)->∃v,P v/\l.foldl (λacc p=>if n=p.1 then ⇑p.2 else acc) ⇑o=⇑v
 | [],o,ho,_=>#[o,ho,rfl]
 | p::l,o,ho,h=>by
   rw[Hv];by_cases z:n=p.1
   . rw[HI z];exact nQ P n l p.2 (h p HH) λq hq=>h q (Gz _ hq)
   . rw[Gu z];exact nQ P n l o ho λq hq=>h q (Gz _ hq)
def uA (P:V->Prop) (n:Str):∀(l:List (Str×V)),(∃p∈l,p.1=n)->∀(o1 o2:Kd V),(∀p∈l,P p.2)->∃v,P v/\l.foldl (λacc p=>if n=p.1 then ⇑p.2 else acc) o1=⇑v/\l.foldl (λacc p=>if n=p.1 then ⇑p.2 else acc) o2=⇑v
 | [],h,_,_,_=>by let#[_,h,_]:=h; cases h
 | p::l,h,o1,o2,hP=>by
   rw[Hv,Hv];by_cases hl:∃q∈l,q.1=n
   . exact uA P n l hl _ _ λq hq=>hP q (Gz _ hq)
   . have hp:p.1=n:=by
       let#[q,hq,e]:=h;rcases HM.mp hq with rfl|hq
       . exact e
       . exact absurd #[q,hq,e] hl
     rw[HI hp.symm,HI hp.symm];have no:∀(l:List (Str×V)),(¬ ∃q∈l,q.1=n)->∀o:Kd V,l.foldl (λacc p=>if n=p.1 then ⇑p.2 else acc) o=o:=by
       intro l
       induction l with
       | nil=>intro _ o; rfl
       | cons q r ih =>
         intro hh o;rw[Hv,Gu (λz=>hh #[q,HH,z.symm])];exact ih (λz4_=>by let#[x,hx,e]:=z4_; exact hh #[x,Gz _ hx,e]) o
     show#[p.2,hP p HH,no l hl _,no l hl _]
def CH {ps:List Str} {n:Str} (h:n∈ps) (hl:ps.length=vals.length):∃p∈ps.zip vals,p.1=n:=by
 let#[i,hi]:=Hy h;have hv:i<vals.length:=by rw[<- hl]; exact(Gq.mp hi).1
 show#[(n,vals[i]),He (Io.mpr #[hi,HN hv]),rfl]
def ua (P:Str->Prop):∀(l:List (Str×V)) (d:List (aE×V)),(∀p∈l,P p.1)->(∀kv∈d,∃n,kv.1=0xC/\P n)->∀kv∈l.foldl (λd p=>aQ d (Sum.inr p.1:aE) p.2) d,∃n,kv.1=0xC/\P n
 | [],d,_,h=>h
 | p::l,d,hl,h=>by
   rw[Hv];refine ua P l _ (λq hq=>hl q (Gz _ hq)) (λkv hkv=>?_);rcases nT hkv with rfl|⟨h1,_⟩
   . show#[p.1,rfl,hl p HH]
   . exact h kv h1
def CD (hF:Fh K H F rgs) (hv:∀v∈vals,∃i,v=.int i/\c6 i) (hlen:F.ps.length=vals.length):Alk F (eI F vals) (iQ rgs F.ps vals):=by
 have hin:∀rg∈rgs,∀s,V.str s∈RH.parts rg->s∈eC rgs:=λrg hrg s hs=>by unfold eC;rw[KR];show#[rg,hrg,ny.mpr hs]
 have z:=ur (F:=F) (λs=>s∈eC rgs) (λn hn=>(hF.nm n).mpr (.inr hn)) rgs [] hin (λkv h=>by cases h);have base:∀n,n∈F2.nms F->aZ (((F2.nms F).map λn=>(0xC,V.int 0)).foldl (λacc kv=>aQ acc kv.1 kv.2) []) 0xC=⇑(.int 0):=λn hn=>rT _ _ (.inl hn);have hz:c6 0:=by unfold c6 K21.wide; decide
 show#[λn hn=>?_,?_,?_,?_]
 . have b1:=base n hn;by_cases hg:n∈eC rgs
   . have b2:aZ (rgs.foldl (λd rg=>(RH.parts rg).foldl cO d) []) 0xC=⇑(.int 0):=z.2 n (.inl (by unfold eC at hg;rw[KR] at hg;let#[rg,h1,h2]:=hg;show#[rg,h1,ny.mp h2]))
     obtain⟨v,⟨i,rfl,hi⟩,e⟩:=nQ (λv=>∃i,v=V.int i/\c6 i) n (F.ps.zip vals) (.int 0) #[(0),rfl,hz] (λp hp=>hv p.2 (oR hp).2);show#[i,hi,?_,?_]
     . unfold eI;rw[jz,b1];exact e
     . unfold iQ;rw[jz,b2];exact e
   . have hp:n∈F.ps:=((hF.nm n).mp hn).resolve_right hg;obtain⟨v,⟨i,rfl,hi⟩,e1,e2⟩:=uA (λv=>∃i,v=V.int i/\c6 i) n (F.ps.zip vals) (CH hp hlen) ⇑(.int 0) (aZ (rgs.foldl (λd rg=>(RH.parts rg).foldl cO d) []) 0xC) (λp hp=>hv p.2 (oR hp).2);show#[i,hi,?_,?_]
     . unfold eI;rw[jz,b1];exact e1
     . unfold iQ;rw[jz];exact e2
 . unfold iQ;refine ua (λn=>n∈F2.nms F) _ _ (λp hp=>(hF.nm _).mpr (.inl (oR hp).1)) (λkv hkv=>?_);let#[n,e,h1,_]:=z.1 kv hkv;show#[n,by rw[e],(hF.nm n).mpr (.inr h1)]
 . unfold eI;refine Hf (hJ (λp:Str×V=>((Sum.inr p.1:aE),p.2)) _ _) ?_;have l1:(((F2.nms F).map λn=>(0xC,V.int 0)).foldl (λacc kv=>aQ acc kv.1 kv.2) []).length<=([]:List (aE×V)).length+((F2.nms F).map λn=>(0xC,V.int 0)).length:=hJ (λkv:aE×V=>kv) ((F2.nms F).map λn=>(0xC,V.int 0)) [];refine Hf (Nat.add_le_add_right l1 _) ?_;have l2:=hF.nl;have l3:=hF.pl;rw[Go,J0];show 0+(F2.nms F).length+_<=2000
   lia
 . unfold iQ;refine Hf (hJ (λp:Str×V=>((Sum.inr p.1:aE),p.2)) _ _) ?_;have l1:=kf rgs [] hF.ok;have l2:=hF.small;have l3:=hF.pl;simp only[Ih] at l1;rw[J0]
   lia
abbrev Ep (K:Kh):Sp:=λvs H Q _=>∃(F:F2.Fd) (rgs:List RH) (ar:Kg) (vals:List V),vs=[↥F.fa,↥ar]/\Fh K H F rgs/\aG K H ar vals/\F.ps.length=vals.length/\(∀v∈vals,∃i,v=.int i/\c6 i)/\∀l d H' kvs,H l=none->H d=none->l≠d->aB H H'->H' l=⇑(.lst [V.ref F.fa,V.int 0,V.ref d])->H' d=⇑(.dK kvs)->Alk F (eI F vals) kvs->Q ↥l H'
structure Lf where
 (l d:Addr)
 F:F2.Fd
 at_:Nat
 kvs:List (aE×V)
structure Stk (H:Hp) (sk:Addr) (ls:List Lf):Prop where
 e:H sk=⇑(.lst (ls.map λx=>V.ref x.l))
 fr:∀x∈ls,H x.l=⇑(.lst [V.ref x.F.fa,V.int x.at_,V.ref x.d])/\H x.d=⇑(.dK x.kvs)
 nl:(ls.map (·.l)).Nodup
 nd:(ls.map (·.d)).Nodup
 ns:∀x∈ls,x.l≠sk
abbrev bO (sk:Kg) (ls:List Lf):List Kg:=sk::(ls.map (·.l)++ls.map (·.d))
abbrev bJ (l:List Kg) (H:Hp):Hp:=λb=>if b∈l then none else H b
def dB {l:List Kg} (h:b ∉ l):bJ l H b=H b:=by unfold bJ; rw[Gu h]
def mr {l:List Kg} (h:b∈l):bJ l H b=none:=by unfold bJ; rw[HI h]
def dm {l:List Kg} :aB (bJ l H) H:=λb o hb=>by
 unfold bJ at hb;split at hb
 . cases hb
 . exact hb
def Stk.mono {ls:List Lf} (h:Stk H sk ls) (e:aB H H'):Stk H' sk ls:=#[e _ _ h.e,λx hx=>#[e _ _ (h.fr x hx).1,e _ _ (h.fr x hx).2],h.nl,h.nd,h.ns]
def Stk.all {ls:List Lf} (h:Stk H sk ls) (hb:b∈bO sk ls):∃o,H b=⇑o:=by
 rcases HM.mp hb with rfl|hb
 . show#[_,h.e]
 . rcases HW.mp hb with hb|hb
   . let#[x,hx,rfl]:=HX.mp hb; show#[_,(h.fr x hx).1]
   . let#[x,hx,rfl]:=HX.mp hb; show#[_,(h.fr x hx).2]
def su {ls0:List Lf} {x:Lf}:sk∈bO sk (ls0++[x])/\x.l∈bO sk (ls0++[x])/\x.d∈bO sk (ls0++[x]) :=
 #[HH,Gz _ (Hx _ (HX.mpr #[x,by simp,rfl])),Gz _ (HS _ (HX.mpr #[x,by simp,rfl]))]
def iU {ls:List Lf} {x:Lf} (h:x∈ls):x.l∈bO sk ls/\x.d∈bO sk ls :=
 #[Gz _ (Hx _ (HX.mpr #[x,h,rfl])),Gz _ (HS _ (HX.mpr #[x,h,rfl]))]
def Stk.push {ls:List Lf} {x:Lf} (st:Stk H sk ls) (s:aB H H') (hl:H x.l=none) (hd:H x.d=none) (e1:H' x.l=⇑(.lst [V.ref x.F.fa,V.int x.at_,V.ref x.d])) (e2:H' x.d=⇑(.dK x.kvs)):Stk (upd H' sk (.lst ((ls++[x]).map λx=>V.ref x.l))) sk (ls++[x]):=by
 have st':=st*>s;have n1:x.l≠sk:=λz=>by rw[z,st.e] at hl; cases hl
 have n2:x.d≠sk:=λz=>by rw[z,st.e] at hd; cases hd
 have n3:∀y∈ls,y.d≠sk:=λy hy z=>by have:=(st.fr y hy).2; rw[z,st.e] at this; cases this
 show#[aI,λy hy=>?_,?_,?_,λy hy=>?_]
 . rcases HW.mp hy with h|h
   . show#[by rw[aJ (st.ns y h)]; exact(st'.fr y h).1,by rw[aJ (n3 y h)]; exact(st'.fr y h).2]
   . rw[HG.mp h];show#[by rw[aJ n1]; exact e1,by rw[aJ n2]; exact e2]
 . rw[Gy,IJ];show#[st.nl,0xA,λa ha b hb z=>?_];let#[y,hy,rfl]:=HX.mp ha;rw[HG.mp hb] at z;have:=(st.fr y hy).1;rw[z,hl] at this;cases this
 . rw[Gy,IJ];show#[st.nd,0xA,λa ha b hb z=>?_];let#[y,hy,rfl]:=HX.mp ha;rw[HG.mp hb] at z;have:=(st.fr y hy).2;rw[z,hd] at this;cases this
 . rcases HW.mp hy with h|h
   . exact st.ns y h
   . rw[HG.mp h]; exact n1
def Stk.pop {ls:List Lf} {x:Lf} (st:Stk H sk (ls++[x])):Stk (upd H sk (.lst (ls.map λx=>V.ref x.l))) sk ls:=by
 have sub:∀y∈ls,y∈ls++[x]:=λy hy=>Hx _ hy;show#[aI,λy hy=>#[by rw[aJ (st.ns y (sub y hy))]; exact(st.fr y (sub y hy)).1,?_],?_,?_,λy hy=>st.ns y (sub y hy)]
 . rw[aJ (λz=>by have:=(st.fr y (sub y hy)).2; rw[z,st.e] at this; cases this)];exact(st.fr y (sub y hy)).2
 . have:=st.nl; rw[Gy] at this; exact(IJ.mp this).1
 . have:=st.nd; rw[Gy] at this; exact(IJ.mp this).1
def Stk.set {H:Hp} {sk:Kg} {ls:List Lf} {x:Lf} {i:Nat} {kvs:List (aE×V)} {n:Nat} (st:Stk H sk ls) (hx:ls[i]?=⇑x):Stk (upd (upd H x.d (.dK kvs)) x.l (.lst [V.ref x.F.fa,V.int n,V.ref x.d])) sk (ls.set i { x with kvs:=kvs,at_:=n }):=by
 have hxm:=He hx;have fx:=st.fr x hxm;have dl:x.d≠x.l:=λz=>by have:=fx.2; rw[z,fx.1] at this; cases this
 have sl:sk≠x.l:=(st.ns x hxm).symm;have sd:sk≠x.d:=λz=>by have:=fx.2; rw[<- z,st.e] at this; cases this
 have ap:∀(j:Nat) y,ls[j]?=⇑y->j≠i->y.l≠x.l/\y.d≠x.d:=λj y hy hj=>by
   show#[λz=>hj ?_,λz=>hj ?_]
   . have h1:(ls.map (·.l))[j]?=⇑x.l:=by rw[HV,hy]; exact HY some z
     have h2:(ls.map (·.l))[i]?=⇑x.l:=by rw[HV,hx]; rfl
     exact(JB (Gq.mp h1).1 st.nl).mp (h1\h2.symm)
   . have h1:(ls.map (·.d))[j]?=⇑x.d:=by rw[HV,hy]; exact HY some z
     have h2:(ls.map (·.d))[i]?=⇑x.d:=by rw[HV,hx]; rfl
     exact(JB (Gq.mp h1).1 st.nd).mp (h1\h2.symm)
 have hil:i<ls.length:=(Gq.mp hx).1;have fall:∀{P:Lf->Prop},(∀(j:Nat) y,ls[j]?=⇑y->j≠i->P y)->P { x with kvs:=kvs,at_:=n }->∀y∈ls.set i { x with kvs:=kvs,at_:=n },P y:=λh1 h2 y hy=>by
   let#[j,hj]:=Hy hy;rw[List.getElem?_set] at hj;by_cases hne:i=j
   . rw[HI hne,HI hil] at hj;cases hj; exact h2
   . rw[Gu hne] at hj;exact h1 j y hj (λz=>hne z.symm)
 show#[?_,fall (λj y hy hj=>?_) #[aI,by show upd _ x.l _ x.d=_; rw[aJ dl,aI]],?_,?_,fall (λj y hy _=>st.ns y (He hy)) (st.ns x hxm)]
 . rw[aJ sl,aJ sd,st.e,n6 (y:={ x with kvs:=kvs,at_:=n }) (λx:Lf=>V.ref x.l) hx rfl]
 . have fy:=st.fr y (He hy);let#[q1,q2]:=ap j y hy hj;show#[?_,?_]
   . rw[aJ q1,aJ (λz=>by have:=fy.1; rw[z,fx.2] at this; cases this)];exact fy.1
   . rw[aJ (λz=>by have:=fy.2; rw[z,fx.1] at this; cases this),aJ q2];exact fy.2
 . rw[n6 (y:={ x with kvs:=kvs,at_:=n }) (λx:Lf=>x.l) hx rfl]; exact st.nl
 . rw[n6 (y:={ x with kvs:=kvs,at_:=n }) (λx:Lf=>x.d) hx rfl]; exact st.nd
def tE {α:Type} (l:List α) (x y:α):(l++[x]).set l.length y=l++[y]:=by rw[List.set_append_right _ _ (Gw _),Nat.sub_self];rfl
def em {α:Type} (l:List α) (x:α):(l++[x])[l.length]?=⇑x:=by rw[II (Gw _),Nat.sub_self]; rfl
def lT (ls:List Lf) (x:Lf):bD ((ls++[x]).map λx=>V.ref x.l) (-1)=⇑↥x.l:=by rw[Gy];exact jI _ _
def dU {l:List Kg} (s:aB (bJ l H) H') (h:b∈l):aB (bJ l H) (upd H' b o):=s.upd (mr h)
def gN {α:Type} {l:List α} {x:α}:x∈l++[x]:=HS _ (HG.mpr rfl)
def pc {kvs:List (aE×V)} {k:aE} {u:V}(h:aZ kvs k=⇑u):(aQ kvs k v).length=kvs.length:=by unfold aQ;rw[gu,h,HI 0x1,Go]
def ug (h:H b=⇑o):upd H b o=H:=by
 funext c;by_cases z:c=b
 . rw[z,aI,h]
 . rw[aJ z]
def Alk.put {k1 k2:List (aE×V)} {n:Str} (a:Alk F k1 k2) (hn:n∈F2.nms F) (hz:c6 z):Alk F (aQ k1 0xC (.int z)) (aQ k2 0xC (.int z)):=by
 let#[i,_,e1,e2]:=a.v n hn;show#[λm hm=>?_,λkv hkv=>?_,by rw[pc e1,pc e2]; exact a.l]
 . rw[dj,dj];by_cases h:(Sum.inr m:aE)=Sum.inr n
   . rw[HI h,HI h]; show#[z,hz,7]
   . rw[Gu h,Gu h]; exact a.v m hm
 . rcases nT hkv with rfl|⟨h1,_⟩
   . show#[n,rfl,hn]
   . exact a.k kv h1
def gk {q:Kg}{kvs:List (aE×V)} (h:aN K H a xs) (hq:H q=⇑(.dK kvs)):aN K (upd H q o) a xs:=by
 rcases h with(h|⟨u,h⟩)|h
 . exact .inl (.inl (by rw[aJ (λz=>by rw[z,hq] at h; cases h)]; exact h))
 . exact .inl (.inr #[u,by rw[aJ (λz=>by rw[z,hq] at h; cases h)]; exact h])
 . exact .inr h
def Stk.dic {ls:List Lf} {y:Lf} {kvs:List (aE×V)} (st:Stk H sk (ls++[y])):Stk (upd H y.d (.dK kvs)) sk (ls++[{ y with kvs:=kvs }]):=by
 have fy:=st.fr y gN;have dl:y.d≠y.l:=λz=>by have:=fy.2; rw[z,fy.1] at this; cases this
 have:=st.set (i:=ls.length) (kvs:=kvs) (n:=y.at_) (em _ _);rw[tE,ug ((aJ dl.symm)\fy.1)] at this;exact this
def Stk.to {ls:List Lf} {y:Lf} (st:Stk H sk (ls++[y])):Stk (upd H y.l (.lst [V.ref y.F.fa,V.int n,V.ref y.d])) sk (ls++[{ y with at_:=n }]):=by have fy:=st.fr y gN;have:=st.set (i:=ls.length) (kvs:=y.kvs) (n:=n) (em _ _);rw[tE,ug fy.2] at this;exact this
def An (rh:RH):∃rest,rh.items=V.str rh.kind::rest:=by
 cases rh with
 | rg r=>cases r <;> show#[5]
 | els=>show#[5]
 | fin=>show#[5]
def ji {k:Nat} {rg:RH} (h:rgs[k]?=⇑rg):K13.kd (rgs.map RH.kind) k=rg.kind:=by unfold K13.kd;rw[IX,HV,h];rfl
def Fh.rowsAt (h:Fh K H F rgs):K13.RowsAt K H F.ra (rgs.map RH.kind):=by
 show#[F.rs.map (·.r),?_,by rw[Go,Go,h.len],λi r hr=>?_]
 . rw[IG];exact h.at_.rw_
 . rw[HV,Ix] at hr;let#[w,hw,rfl]:=hr;have hi:i<rgs.length:=by rw[<- h.len]; exact(Gq.mp hw).1
   have hg:rgs[i]?=some rgs[i]:=HN hi;have:=(h.row i w _ hw hg).it;let#[rest,e]:=An rgs[i];rw[e] at this;rw[ji hg];show#[rest,this]
abbrev B5 (K:Kh):Sp:=λvs H Q _=>∃(sk:Kg) (ls0:List Lf) (x:Lf) (n:Int),vs=[↥sk,.int n]/\Stk H sk (ls0++[x])/\ls0.length<=1000/\(ls0=[]->∀H',aB (bJ (bO sk (ls0++[x])) H) H'->Stk H' sk []->Q .non H')/\∀ls1 y,ls0=ls1++[y]->y.kvs.length<100000/\∃(rgs:List RH) (z g:Str) (p:Kg) (as:List V) (r:Nat),Fh K H y.F rgs/\rgs[y.at_]?=⇑(.rg (.call z g p as))/\K13.Beh (rgs.map RH.kind) y.at_ r/\y.at_+1<rgs.length/\∀H',aB (bJ (bO sk (ls0++[x])) H) H'->Stk H' sk (ls1++[{ y with kvs:=aQ y.kvs (Sum.inr z:aE) (.int n),at_:=r }])->Q .non H'
abbrev GC (K:Kh):Sp:=λvs H Q _=>∃(sk pl r:Kg) (ls:List Lf) (d:Kg) (kvs:List (aE×V)) (fas:List Kg) (y g:Str) (p:Kg) (as vals:List V) (F:F2.Fd) (rgs:List RH),vs=[↥sk,↥pl,↥r,↥d]/\Stk H sk ls/\ls.length<=1000/\aG K H pl (fas.map V.ref)/\RGAt K H r (.call y g p as)/\H d=⇑(.dK kvs)/\as.length=vals.length/\as.length<=10/\(∀(i:Nat) a v,as[i]?=⇑a->vals[i]?=⇑v->av kvs a=⇑v)/\(∀v∈vals,∃i,v=.int i/\c6 i)/\Fh K H F rgs/\F.name=g/\F.ps.length=vals.length/\F.fa∈fas/\(∀a∈fas,∃nm rest,aN K H a (.str nm::rest)/\(nm=g <-> a=F.fa))/\∀H' x',aB (bJ (bO sk ls) H) H'->x'.F=F->x'.at_=0->Alk F (eI F vals) x'.kvs->H x'.l=none->H x'.d=none->Stk H' sk (ls++[x'])->Q .non H'
abbrev bj (fd la:Kg) (made:Int) (sl:Kg) (ans:V):List (aE×V):=[((Sum.inr "fields":aE),V.ref fd),((Sum.inr "last":aE),V.ref la),((Sum.inr "made":aE),V.int made),((Sum.inr "sent":aE),V.ref sl),((Sum.inr "answer":aE),ans)]
structure Sto (H:Hp) (st fd la sl:Addr) (fk:List (List aE×V)) (li:Int) (lf:Str) (made:Int) (sents:List V) (ans:V):Prop where
 st_:H st=⇑(.dK (bj fd la made sl ans))
 fd_:H fd=⇑(.dT fk)
 la_:H la=⇑(.tup [.int li,.str lf])
 sl_:H sl=⇑(.lst sents)
def ma {made:Int} {ans:V}:aZ (bj fd la made sl ans) (Sum.inr "fields":aE)=⇑↥fd:=rfl
def ko {made:Int} {ans:V}:aZ (bj fd la made sl ans) (Sum.inr "last":aE)=⇑↥la:=rfl
def ni {made:Int} {ans:V}:aZ (bj fd la made sl ans) (Sum.inr "made":aE)=⇑(.int made):=rfl
def oE {made:Int} {ans:V}:aZ (bj fd la made sl ans) (Sum.inr "sent":aE)=⇑↥sl:=rfl
def rH {la':Kg}{made:Int} {ans:V}:aQ (bj fd la made sl ans) (Sum.inr "last":aE) ↥la'=bj fd la' made sl ans:=rfl
def A3 {made m:Int} {ans:V}:aQ (bj fd la made sl ans) (Sum.inr "made":aE) (.int m)=bj fd la m sl ans:=rfl
section
variable {H H':Hp} {st fd la sl d:Kg} {fk:List (List aE×V)} {li:Int} {lf:Str} {made:Int} {sents:List V} {ans:V} {kvs:List (aE×V)}
def Sto.mono (S:Sto H st fd la sl fk li lf made sents ans) (e:aB H H'):Sto H' st fd la sl fk li lf made sents ans:=#[e _ _ S.st_,e _ _ S.fd_,e _ _ S.la_,e _ _ S.sl_]
def Sto.dic (S:Sto H st fd la sl fk li lf made sents ans) (hd:H d=⇑(.dK kvs)) (hne:d≠st):Sto (upd H d o) st fd la sl fk li lf made sents ans :=
 #[by rw[aJ hne.symm]; exact S.st_,by rw[aJ (λz=>by have:=S.fd_; rw[z,hd] at this; cases this)]; exact S.fd_,by rw[aJ (λz=>by have:=S.la_; rw[z,hd] at this; cases this)]; exact S.la_,by rw[aJ (λz=>by have:=S.sl_; rw[z,hd] at this; cases this)]; exact S.sl_]
def Sto.last {la':Kg} {i:Int} {f:Str} (S:Sto H st fd la sl fk li lf made sents ans) (h:H la'=⇑(.tup [.int i,.str f])):Sto (upd H st (.dK (bj fd la' made sl ans))) st fd la' sl fk i f made sents ans :=
 #[aI,by rw[aJ (λz=>by have:=S.fd_; rw[z,S.st_] at this; cases this)]; exact S.fd_,by rw[aJ (λz=>by rw[z,S.st_] at h; cases h)]; exact h,by rw[aJ (λz=>by have:=S.sl_; rw[z,S.st_] at this; cases this)]; exact S.sl_]
def Sto.put (S:Sto H st fd la sl fk li lf made sents ans):Sto (upd H fd (.dT (aQ fk (Wk.fk li lf) v))) st fd la sl (aQ fk (Wk.fk li lf) v) li lf made sents ans :=
 #[by rw[aJ (λz=>by have:=S.st_; rw[z,S.fd_] at this; cases this)]; exact S.st_,aI,by rw[aJ (λz=>by have:=S.la_; rw[z,S.fd_] at this; cases this)]; exact S.la_,by rw[aJ (λz=>by have:=S.sl_; rw[z,S.fd_] at this; cases this)]; exact S.sl_]
def Sto.mk_ {m:Int} (S:Sto H st fd la sl fk li lf made sents ans):Sto (upd H st (.dK (bj fd la m sl ans))) st fd la sl fk li lf m sents ans :=
 #[aI,by rw[aJ (λz=>by have:=S.fd_; rw[z,S.st_] at this; cases this)]; exact S.fd_,by rw[aJ (λz=>by have:=S.la_; rw[z,S.st_] at this; cases this)]; exact S.la_,by rw[aJ (λz=>by have:=S.sl_; rw[z,S.st_] at this; cases this)]; exact S.sl_]
def Sto.send {vs:List V} (S:Sto H st fd la sl fk li lf made sents ans):Sto (upd H sl (.lst vs)) st fd la sl fk li lf made vs ans :=
 #[by rw[aJ (λz=>by have:=S.st_; rw[z,S.sl_] at this; cases this)]; exact S.st_,by rw[aJ (λz=>by have:=S.fd_; rw[z,S.sl_] at this; cases this)]; exact S.fd_,by rw[aJ (λz=>by have:=S.la_; rw[z,S.sl_] at this; cases this)]; exact S.la_,aI]
def Fj {q:Kg}{kv:List (List aE×V)} (h:aN K H a xs) (hq:H q=⇑(.dT kv)):aN K (upd H q o) a xs:=by
 rcases h with(h|⟨u,h⟩)|h
 . exact .inl (.inl (by rw[aJ (λz=>by rw[z,hq] at h; cases h)]; exact h))
 . exact .inl (.inr #[u,by rw[aJ (λz=>by rw[z,hq] at h; cases h)]; exact h])
 . exact .inr h
end
abbrev Di (H:Hp) (d st fd la sl:Kg) (kvs:List (aE×V)) (fk:List (List aE×V)) (li:Int) (lf:Str) (made:Int) (sents:List V) (ans:V) (Q:VK):RG->Prop
 | .copy x a=>∃v,av kvs a=⇑(.int v)/\∀H',aB (bJ [d] H) H'->H' d=⇑(.dK (aQ kvs (Sum.inr x:aE) (.int v)))->Q .non H'
 | .op x s a b=>∃i j,av kvs a=⇑(.int i)/\av kvs b=⇑(.int j)/\c6 i/\c6 j/\s∈fI/\∀H',aB (bJ [d] H) H'->H' d=⇑(.dK (aQ kvs (Sum.inr x:aE) (.int (K21.valOf s i j))))->Q .non H'
 | .get x a f=>∃i,av kvs a=⇑(.int i)/\(∃a',av (aQ kvs (Sum.inr x:aE) ((aZ fk (Wk.fk i f)).getD (.int 0))) a=⇑(.int a')/\∀la' H',H la'=none->aB (bJ [d,st] H) H'->H' d=⇑(.dK (aQ kvs (Sum.inr x:aE) ((aZ fk (Wk.fk i f)).getD (.int 0))))->Sto H' st fd la' sl fk a' f made sents ans->Q .non H')
 | .put a f b=>∃i j,av kvs a=⇑(.int i)/\av kvs b=⇑(.int j)/\∀la' tp H',H la'=none->H tp=none->aB (bJ [st,fd] H) H'->H' d=⇑(.dK kvs)->Sto H' st fd la' sl (aQ fk (Wk.fk i f) (.int j)) i f made sents ans->H' tp=⇑(.tup [.str "put",.int i,.str f,.int j])->Q ↥tp H'
 | .new x=>∀tp H',H tp=none->aB (bJ [d,st] H) H'->H' d=⇑(.dK (aQ kvs (Sum.inr x:aE) (.int (made+1))))->Sto H' st fd la sl fk li lf (made+1) sents ans->H' tp=⇑(.tup [.str "new",.int (made+1)])->Q ↥tp H'
 | .out a=>∃i,av kvs a=⇑(.int i)/\∀tp H',H tp=none->aB (bJ [sl] H) H'->H' d=⇑(.dK kvs)->Sto H' st fd la sl fk li lf made (sents++[.int i]) ans->H' tp=⇑(.tup [.str "out",.int i])->Q ↥tp H'
 | .ifs _=>Q .non H
 | .whl _=>Q .non H
 | _=>False
abbrev Bi (K:Kh):Sp:=λvs H Q _=>∃(r d st fd la sl:Kg) (rg:RG) (kvs:List (aE×V)) (fk:List (List aE×V)) (li:Int) (lf:Str) (made:Int) (sents:List V) (ans:V),vs=[↥r,↥d,↥st]/\RGAt K H r rg/\H d=⇑(.dK kvs)/\kvs.length<100000/\d≠st/\Sto H st fd la sl fk li lf made sents ans/\fk.length<100000/\sents.length<100000/\Di H d st fd la sl kvs fk li lf made sents ans Q rg
abbrev AR (K:Kh) (t:Adr):Sp:=λvs H Q _=>∃(Hb:Hp) (w:Wr) (fs:List Fm) (oc:V) (sent:List V) (cn:Cn) (st fd la sl:Kg) (li z:Int) (lf:Str) (made:Int) (sents:List V) (ans:V),vs=[↥w.a,↥st]/\WA t Hb H w fs oc sent cn/\Sto H st fd la sl cn.kv li lf made sents ans/\j7 cn li lf=.int z/\∀H',aB H H'->Q (.bl true) H'
structure PfOk (f:Pf):Prop where
 wf:K13.Wf (f.rhs.map RH.kind)
 nm:PyData.strOk f.nm=true
 ps:∀s∈f.ps,K12.Nm s
 rh:∀rh∈f.rhs,rh.Ok/\∀v∈rh.parts,(∃i,v=.int i/\c6 i)\/∃n,v=.str n
 sg:∀rh∈f.rhs,∀x s a b,rh=.rg (.op x s a b)->s∈fI
structure Prg (K:W.Frag) (H:Hp) (fs:List Pf):Prop where
 ne:fs≠[]
 le:fs.length<=12
 at_:∀f∈fs,PfAt K H f
 ci:sQ fs
 nd:(fs.map Pf.nm).Nodup
 ok:∀f∈fs,PfOk f
 hp:∀f∈fs,H f.a=⇑(.tup [.str f.nm,.bl f.fo,↥f.pa,↥f.ra])
def Prg.mono {H H':Hp} {fs:List Pf} (P:Prg K H fs) (e:aB H H'):Prg K H' fs:=#[P.ne,P.le,λf hf=>(P.at_ f hf)*>e,P.ci,P.nd,P.ok,λf hf=>e _ _ (P.hp f hf)]
def rj (h:PolOk ns):∀s∈ns,K12.Nm s:=λs hs=>by
 let#[cs,rfl,h1,h2,h3]:=h.ok s hs;show#[by rw[AN]; lia,?_];have key:∀c∈List.range 123,97<=c->c∈K12.lets.cps.toList:=by decide +kernel
 exact K41.ok_lets λc hc=>key c (K2.mpr (by have:=(h1 c hc).2; lia)) (h1 c hc).1
def yZ {fs:List Str}{shs:List Shp} {lst:V} (hl:cp ns lst) (h:gI ns fs shs lst rh):∀v∈rh.parts,cp ns v:=by
 cases rh with
 | els=>exact λv hv=>absurd hv Hh
 | fin=>exact λv hv=>absurd hv Hh
 | rg r =>
   cases r with
   | out a=>exact λv hv=>by rw[show v=a by simpa [RH.parts,RH.gx,RH.as,RG.gx,RG.as] using hv]; exact h
   | ifs a=>exact λv hv=>by rw[show v=a by simpa [RH.parts,RH.gx,RH.as,RG.gx,RG.as] using hv]; exact h
   | whl a=>exact λv hv=>by rw[show v=a by simpa [RH.parts,RH.gx,RH.as,RG.gx,RG.as] using hv]; exact h
   | back a =>
       intro v hv;rw[show v=a by simpa [RH.parts,RH.gx,RH.as,RG.gx,RG.as] using hv];rcases h with h|h
       . exact h
       . rw[h]; exact hl
   | copy x a =>
       intro v hv;rcases (show v=.str x\/v=a by simpa [RH.parts,RH.gx,RH.as,RG.gx,RG.as] using hv) with rfl|rfl
       . exact .inr #[x,rfl,h.1]
       . exact h.2
   | op x s a b =>
       intro v hv;rcases (show v=.str x\/v=a\/v=b by simpa [RH.parts,RH.gx,RH.as,RG.gx,RG.as] using hv) with rfl|rfl|rfl
       . exact .inr #[x,rfl,h.1]
       . exact h.2.2.1
       . exact h.2.2.2
   | new x=>exact λv hv=>by rw[show v=.str x by simpa [RH.parts,RH.gx,RH.as,RG.gx,RG.as] using hv]; exact .inr #[x,rfl,h]
   | get x a f =>
       intro v hv;rcases (show v=.str x\/v=a by simpa [RH.parts,RH.gx,RH.as,RG.gx,RG.as] using hv) with rfl|rfl
       . exact .inr #[x,rfl,h.1]
       . exact h.2.1
   | put a f b =>
       intro v hv;rcases (show v=a\/v=b by simpa [RH.parts,RH.gx,RH.as,RG.gx,RG.as] using hv) with rfl|rfl
       . exact h.1
       . exact h.2.2
   | call x g p as =>
       intro v hv;rcases (show v=.str x\/v∈as by simpa [RH.parts,RH.gx,RH.as,RG.gx,RG.as] using hv) with rfl|hv
       . exact .inr #[x,rfl,h.1]
       . exact h.2.2 v hv
def GS:∀s∈fI,PyData.strOk s=true:=by decide +kernel
def yx {fs:List Str}{shs:List Shp} {lst:V} (nm:∀s∈ns,K12.Nm s) (fk:∀s∈fs,K12.Nm s) (sk:∀sh∈shs,K12.Nm sh.nm/\sh.ps.length<=6) (hl:cp ns lst) (h:gI ns fs shs lst rh) :
   (rh.Ok/\∀v∈rh.parts,(∃i,v=.int i/\c6 i)\/∃n,v=.str n)/\∀x s a b,rh=.rg (.op x s a b)->s∈fI:=by
 have hp:=yZ hl h;show#[#[?_,λv hv=>?_],λx s a b e=>by subst e; exact h.2.1]
 . have at_:∀v∈rh.parts,K12.Atom v:=λv hv=>FR (show sI ns v from hp v hv) nm;cases rh with
   | els=>trivial
   | fin=>trivial
   | rg r=>show#[at_,(λx s a b e=>by subst e; exact GS s h.2.1),#[(λx a f e=>by subst e; exact(fk f h.2.2).2),(λa f b e=>by subst e; exact(fk f h.2.1).2)],λx g p as e=>by subst e;let#[sh,h1,rfl,h3]:=h.2.1;show#[(sk sh h1).1.2,by have:=(sk sh h1).2; lia]]
 . rcases hp v hv with h|⟨s,e,_⟩
   . exact .inl h
   . exact .inr #[s,e]
abbrev cf (f:Pf):F2.Fd:=dP f.nm (.bl f.fo) f.a f.pa f.ra f.ps f.rs f.rhs
def ya {f:Pf} (a:PfAt K H f) (o:PfOk f):Fh K H (cf f) f.rhs:=by have hl:=a.rw_.len;have h6:=a.l6;have hs:=a.small;show#[AT hl a.it a.rt (λi r rg h1 h2=>#[a.rw_.at_ i r rg h1 h2,(o.rh rg (He h2)).1]) a.pr o.ps ∅ ∅ o.wf,Dv hl,λk rw rg h1 h2=>?_,λx=>D' hl,Hf (GW hl λrg hr=>(o.rh rg hr).1) ∅,h6,Ct hl,o.wf,λrg hr=>(o.rh rg hr).2,∅,o.nm,λrg hr=>(o.rh rg hr).1];let#[w,e1,e2]:=BX (nk:=f.nm) (fo:=.bl f.fo) (fa:=f.a) (qC:=f.pa) (tr:=f.ra) (ps:=f.ps) hl h2;have e3:(dP f.nm (.bl f.fo) f.a f.pa f.ra f.ps f.rs f.rhs).rs[k]?=⇑rw:=h1;rw[e3] at e1;cases e1;exact a.rw_.at_ k _ rg e2 h2
structure Dg (K:W.Frag) (H0 H:Hp) (sl bl zl:Addr) (shs:List Shp) (bs:List (Addr×List Int)) (zs:List (Addr×Nat×V)):Prop where
 same:aB H0 H
 sl_:H sl=⇑(.lst (shs.map λs=>V.ref s.a))
 bl_:H bl=⇑(.lst (bs.map λb=>V.ref b.1))
 zl_:H zl=⇑(.lst (zs.map λz=>V.ref z.1))
 sh:∀s∈shs,ShAt K H s
 bd:∀b∈bs,H b.1=⇑(.lst (b.2.map V.int))
 sz:∀z∈zs,H z.1=⇑(.lst [.int z.2.1,z.2.2])
 ne:sl≠bl/\sl≠zl/\bl≠zl
 nb:∀b∈bs,b.1≠sl/\b.1≠bl/\b.1≠zl/\H0 b.1=none/\∀z∈zs,z.1≠b.1
 nz:∀z∈zs,z.1≠sl/\z.1≠bl/\z.1≠zl
 nd:(bs.map (·.1)).Nodup
 fr:H0 sl=none/\H0 bl=none/\H0 zl=none
section
variable {H0 H H':Hp} {sl bl zl:Kg} {shs:List Shp} {bs:List (Kg×List Int)} {zs:List (Kg×Nat×V)}
def ShAt.lst {q:Kg} {l:List V} {o:HO} {s:Shp} (h:ShAt K H s) (hq:H q=⇑(.lst l)):ShAt K (upd H q o) s:=#[K13.sqT_lst h.it hq,K13.sqT_lst h.pr hq,h.l6]
def Dg.mono (D:Dg K H0 H sl bl zl shs bs zs) (e:aB H H'):Dg K H0 H' sl bl zl shs bs zs:=#[D.same.trans e,e _ _ D.sl_,e _ _ D.bl_,e _ _ D.zl_,λs hs=>(D.sh s hs)*>e,λb hb=>e _ _ (D.bd b hb),λz hz=>e _ _ (D.sz z hz),D.ne,D.nb,D.nz,D.nd,D.fr]
def Dg.pushS {s:Shp} (D:Dg K H0 H sl bl zl shs bs zs) (hs:ShAt K H s):Dg K H0 (upd H sl (.lst ((shs.map λs=>V.ref s.a)++[↥s.a]))) sl bl zl (shs++[s]) bs zs:=by
 show#[D.same.upd D.fr.1,by rw[aI,Gy]; rfl,by rw[aJ D.ne.1.symm]; exact D.bl_,by rw[aJ D.ne.2.1.symm]; exact D.zl_,λx hx=>?_,λb hb=>by rw[aJ (D.nb b hb).1]; exact D.bd b hb,λz hz=>by rw[aJ (D.nz z hz).1]; exact D.sz z hz,D.ne,D.nb,D.nz,D.nd,D.fr];rcases HW.mp hx with h|h
 . exact(D.sh x h).lst D.sl_
 . rw[HG.mp h]; exact hs.lst D.sl_
def Dg.pushZ {z:Kg} {k:Nat} (D:Dg K H0 H sl bl zl shs bs zs) (hz:H z=none):Dg K H0 (upd (upd H z (.lst [.int k,v])) zl (.lst ((zs.map λz=>V.ref z.1)++[↥z]))) sl bl zl shs bs (zs++[(z,k,v)]):=by
 have ne:∀{a:Kg} {o:HO},H a=⇑o->z≠a:=λh e=>by rw[e,h] at hz; cases hz
 have n1:=ne D.sl_;have n2:=ne D.bl_;have n3:=ne D.zl_;have nb:∀b∈bs,z≠b.1:=λb hb=>ne (D.bd b hb);have h0:H0 z=none:=D.same.free hz;have e0:=aI (H:=H) (a:=z) (o:=.lst [.int k,v]);have D:=D.mono (aB.new (o:=.lst [.int k,v]) hz);generalize upd H z (.lst [.int k,v])=H1 at D e0;show#[D.same.upd D.fr.2.2,by rw[aJ D.ne.2.1]; exact D.sl_,by rw[aJ D.ne.2.2]; exact D.bl_,by rw[aI,Gy]; rfl,λx hx=>(D.sh x hx).lst D.zl_,λb hb=>by rw[aJ (D.nb b hb).2.2.1]; exact D.bd b hb,λy hy=>?_,D.ne,λb hb=>?_,λy hy=>?_,D.nd,D.fr]
 . rcases HW.mp hy with h|h
   . rw[aJ (D.nz y h).2.2]; exact D.sz y h
   . rw[HG.mp h,aJ n3]; exact e0
 . let#[a1,a2,a3,a4,a5]:=D.nb b hb;show#[a1,a2,a3,a4,λy hy=>?_];rcases HW.mp hy with h|h
   . exact a5 y h
   . rw[HG.mp h]; exact nb b hb
 . rcases HW.mp hy with h|h
   . exact D.nz y h
   . rw[HG.mp h]; show#[n1,n2,n3]
def Dg.pushB (D:Dg K H0 H sl bl zl shs bs zs) (hb:H b=none):Dg K H0 (upd (upd H b (.lst [])) bl (.lst ((bs.map λb=>V.ref b.1)++[↥b]))) sl bl zl shs (bs++[(b,[])]) zs:=by
 have ne:∀{a:Kg} {o:HO},H a=⇑o->b≠a:=λh e=>by rw[e,h] at hb; cases hb
 have n1:=ne D.sl_;have n2:=ne D.bl_;have n3:=ne D.zl_;have nb:∀y∈bs,b≠y.1:=λy hy=>ne (D.bd y hy);have nz:∀y∈zs,b≠y.1:=λy hy=>ne (D.sz y hy);have h0:H0 b=none:=D.same.free hb;have e0:=aI (H:=H) (a:=b) (o:=.lst []);have D:=D.mono (aB.new (o:=.lst []) hb);generalize upd H b (.lst [])=H1 at D e0;show#[D.same.upd D.fr.2.1,by rw[aJ D.ne.1]; exact D.sl_,by rw[aI,Gy]; rfl,by rw[aJ D.ne.2.2.symm]; exact D.zl_,λx hx=>(D.sh x hx).lst D.bl_,λy hy=>?_,λy hy=>by rw[aJ (D.nz y hy).2.1]; exact D.sz y hy,D.ne,λy hy=>?_,D.nz,?_,D.fr]
 . rcases HW.mp hy with h|h
   . rw[aJ (D.nb y h).2.1]; exact D.bd y h
   . rw[HG.mp h,aJ n2]; exact e0
 . rcases HW.mp hy with h|h
   . exact D.nb y h
   . rw[HG.mp h]; show#[n1,n2,n3,h0,λy hy=>(nz y hy).symm]
 . rw[Gy,IJ];show#[D.nd,by simp,λx hx y hy=>?_];rw[show y=b by simpa using hy];let#[w,hw,rfl]:=HX.mp hx;exact(nb w hw).symm
def Dg.putB {cs:List Int} {c:Int} (D:Dg K H0 H sl bl zl shs (bs++[(b,cs)]) zs):Dg K H0 (upd H b (.lst (cs.map V.int++[.int c]))) sl bl zl shs (bs++[(b,cs++[c])]) zs:=by
 have hm:(b,cs)∈bs++[(b,cs)]:=HS _ HH;let#[a1,a2,a3,a4,a5]:=D.nb _ hm;have hq:=D.bd _ hm;have nd:=D.nd;rw[Gy,IJ] at nd;show#[D.same.upd a4,by rw[aJ a1.symm]; exact D.sl_,by rw[aJ a2.symm,Gy]; have:=D.bl_; rw[Gy] at this; exact this,by rw[aJ a3.symm]; exact D.zl_,λx hx=>(D.sh x hx).lst hq,λy hy=>?_,λy hy=>by rw[aJ (a5 y hy)]; exact D.sz y hy,D.ne,λy hy=>?_,D.nz,by have:=D.nd; rw[Gy] at this ⊢; exact this,D.fr]
 . rcases HW.mp hy with h|h
   . rw[aJ (nd.2.2 _ (List.mem_map_of_mem h) b 0xA)]; exact D.bd y (Hx _ h)
   . rw[HG.mp h,aI,Gy]; rfl
 . rcases HW.mp hy with h|h
   . exact D.nb y (Hx _ h)
   . rw[HG.mp h]; show#[a1,a2,a3,a4,a5]
end
structure L1 (ns cn:List Str) (i:Nat) (shs:List Shp) (bs:List (Addr×List Int)) (zs:List (Addr×Nat×V)):Prop where
 l1:bs.length=shs.length
 l2:zs.length=shs.length
 pos:0<i->0<shs.length
 le:shs.length<=12
 nms:shs.map Shp.nm=cn.take shs.length
 ps:∀s∈shs,∀x∈s.ps,x∈ns
 cells:∀b∈bs,b.2.length<=i
 zok:∀z∈zs,1<=z.2.1/\z.2.1<=24/\cp ns z.2.2
def EL :L1 ns cn 0 [] [] []:=#[7,λh=>absurd h (ID _),Hj _,rfl,(λ_ h=>absurd h Hh),(λ_ h=>absurd h Hh),(λ_ h=>absurd h Hh)]
def L1.opn {shs:List Shp} {bs:List (Kg×List Int)} {zs:List (Kg×Nat×V)} {s:Shp} {z:Kg}{k:Nat} (L:L1 ns cn i shs bs zs) (h:shs.length<12) (hn:cn[shs.length]?=⇑s.nm) (hp:∀x∈s.ps,x∈ns) (h1:1<=k) (h2:k<=24) (hv:cp ns v):L1 ns cn (i+1) (shs++[s]) (bs++[(b,[])]) (zs++[(z,k,v)]):=by
 show#[by rw[Gv,Gv,L.l1]; rfl,by rw[Gv,Gv,L.l2]; rfl,λ_=>by rw[Gv]; exact Nat.succ_pos _,by rw[Gv]; exact h,?_,λx hx=>?_,λx hx=>?_,λx hx=>?_]
 . rw[Gy,L.nms,Gv,Hr,Hz,hn];rfl
 . rcases HW.mp hx with h|h
   . exact L.ps x h
   . rw[HG.mp h]; exact hp
 . rcases HW.mp hx with h|h
   . exact Ja (L.cells x h)
   . rw[HG.mp h]; exact Hj _
 . rcases HW.mp hx with h|h
   . exact L.zok x h
   . rw[HG.mp h]; show#[h1,h2,hv]
def L1.cell {shs:List Shp} {bs:List (Kg×List Int)} {zs:List (Kg×Nat×V)} {cs:List Int} {c:Int} (L:L1 ns cn i shs (bs++[(b,cs)]) zs):L1 ns cn (i+1) shs (bs++[(b,cs++[c])]) zs:=by
 have l1:=L.l1;rw[Gv,Hr] at l1;show#[by rw[Gv]; exact l1,L.l2,λ_=>by lia,L.le,L.nms,L.ps,λx hx=>?_,L.zok];rcases HW.mp hx with h|h
 . exact Ja (L.cells x (Hx _ h))
 . rw[HG.mp h];show(cs++[c]).length<=i+1;rw[Gv];exact Nat.succ_le_succ (L.cells (b,cs) (HS _ HH))
def or3 {b1 b2 b3:Bool} {A B X Y:Prop} (h:b1=true\/(b2=true/\b3=true)->A) (g:b1=false->B) (kX:(if b2=true then Y else if false=true then A else B)->X) (kY:(if b3=true then A else B)->Y):if b1=true then(if true=true then A else B) else X:=by
 cases b1
 . refine kX ?_;cases b2
   . exact g rfl
   . refine kY ?_;cases b3
     . exact g rfl
     . exact h (.inr #[7])
 . exact h (.inl rfl)
def E1 {d:Int}(h24:ns.length=24) (hd:0<=d/\d<281474976710656) (h0:0<=z) (h1:z<24):∃v,bD (ns.map V.str++(List.replicate (24:Int).toNat [V.int d]).flatten) (z * 2)=⇑v/\cp ns v:=by
 rw[show(24:Int).toNat=24 from rfl,IQ];let#[v,hv,hm]:=gR (xs:=ns.map V.str++List.replicate 24 (V.int d)) (i:=z * 2) ∅ (by rw[Gv,Go,IH]; lia);show#[v,hv,?_];rcases HW.mp hm with h|h
 . let#[s,hs,rfl]:=HX.mp h;exact .inr #[s,rfl,hs]
 . rw[(J9.mp h).2]; exact .inl #[d,rfl,hd]
abbrev tD (shs:List Shp) (f:Pf):Prop:=∀rh∈f.rhs,∀x g p as,rh=.rg (.call x g p as)->∃sh∈shs,sh.nm=g/\as.length=sh.ps.length
def PfAt.lst {H:Hp} {q:Kg} {l:List V} {o:HO} {f:Pf} (h:PfAt K H f) (hq:H q=⇑(.lst l)):PfAt K (upd H q o) f:=#[K13.sqT_lst h.it hq,K13.sqT_lst h.pr hq,K13.sqT_lst h.rt hq,h.rw_.lst hq,h.l6,h.small]
structure Lp2 (K:W.Frag) (B G:Hp) (gl:Addr) (shs:List Shp) (i:Nat) (fs:List Pf):Prop where
 same:aB B G
 gl_:G gl=⇑(.lst (fs.map λf=>V.ref f.a))
 at_:∀f∈fs,PfAt K G f/\PfOk f/\tD shs f
 sig:fs.map (λf=>(f.nm,f.ps))=(shs.take i).map λs=>(s.nm,s.ps)
 hp:∀f∈fs,G f.a=⇑(.tup [.str f.nm,.bl f.fo,↥f.pa,↥f.ra])
def Lp2.mono {B G G':Hp} {gl:Kg} {shs:List Shp} {i:Nat} {fs:List Pf} (P:Lp2 K B G gl shs i fs) (e:aB G G'):Lp2 K B G' gl shs i fs:=#[P.same.trans e,e _ _ P.gl_,λf hf=>#[(P.at_ f hf).1.mono e,(P.at_ f hf).2],P.sig,λf hf=>e _ _ (P.hp f hf)]
def Lp2.push {B:Hp}{gl:Kg} {shs:List Shp} {fs:List Pf} {f:Pf} {s:Shp} (P:Lp2 K B G gl shs i fs) (hg:B gl=none) (hf:PfAt K G f) (ok:PfOk f) (cs:tD shs f) (hs:shs[i]?=⇑s) (h1:f.nm=s.nm) (h2:f.ps=s.ps) (hh:G f.a=⇑(.tup [.str f.nm,.bl f.fo,↥f.pa,↥f.ra])):Lp2 K B (upd G gl (.lst ((fs.map λf=>V.ref f.a)++[↥f.a]))) gl shs (i+1) (fs++[f]):=by
 have ne:∀{b:Kg} {xs:List V},G b=⇑(.tup xs)->b≠gl:=λh z=>by rw[z,P.gl_] at h; cases h
 show#[P.same.upd hg,by rw[aI,Gy]; rfl,λx hx=>?_,?_,λx hx=>?_];rotate_left 2
 . rcases HW.mp hx with h|h
   . rw[aJ (ne (P.hp x h))]; exact P.hp x h
   . rw[HG.mp h,aJ (ne hh)]; exact hh
 . rcases HW.mp hx with h|h
   . show#[(P.at_ x h).1.lst P.gl_,(P.at_ x h).2]
   . rw[HG.mp h]; show#[hf.lst P.gl_,ok,cs]
 . rw[Gy,P.sig,Hz,hs,Gy,List.map_singleton,h1,h2];rfl
def Lp2.prg {B:Hp}{gl:Kg} {shs:List Shp} {bs:List (Kg×List Int)} {zs:List (Kg×Nat×V)} {fs:List Pf} (P:Lp2 K B G gl shs shs.length fs) (L:L1 ns cn n shs bs zs) (h:0<shs.length) (pol:PolOk cn):Prg K G fs:=by
 have sig:=P.sig;rw[IP] at sig;have ln:fs.length=shs.length:=by have:=HY List.length sig; rwa [Go,Go] at this
 show#[λz=>by rw[z] at ln; exact absurd ln (Hu h),by rw[ln]; exact L.le,λf hf=>(P.at_ f hf).1,λf hf rh hr x g p as e=>?_,?_,λf hf=>(P.at_ f hf).2.1,P.hp]
 . let#[sh,h1,h2,h3]:=(P.at_ f hf).2.2 rh hr x g p as e;have hm:(sh.nm,sh.ps)∈fs.map λf=>(f.nm,f.ps):=by rw[sig]; exact HX.mpr #[sh,h1,rfl]
   let#[f',m1,m2]:=HX.mp hm;have a1:f'.nm=sh.nm:=HY Prod.fst m2;have a2:f'.ps=sh.ps:=HY Prod.snd m2;show#[f',m1,by rw[a1]; exact h2,by rw[a2]; exact h3]
 . have e1:fs.map Pf.nm=shs.map Shp.nm:=by have:=HY (List.map Prod.fst) sig;rwa [IG,IG] at this
   rw[e1,L.nms];exact(List.take_sublist _ _).nodup pol.nd
def Ar {shs:List Shp} {fs:List Pf} (h:shs.length<=12) (hi:i<shs.length) (e:fs.map (λf=>(f.nm,f.ps))=(shs.take i).map λs=>(s.nm,s.ps)):fs.length<12:=by
 have:=HY List.length e;rw[Go,Go,Hl] at this
 lia
def refold {H:Hp}:∀{fs:List Pf} {vs:List V},fs.length=vs.length->(∀(i:Nat) f v,fs[i]?=⇑f->vs[i]?=⇑v->∃tp,v=↥tp/\H tp=⇑(.tup [.str f.nm,.bl false,↥f.pa,↥f.ra]))->∃gs:List Pf,vs=(gs.map λf=>V.ref f.a)/\gs.map (λf=>(f.nm,f.ps))=fs.map (λf=>(f.nm,f.ps))/\∀g∈gs,H g.a=⇑(.tup [.str g.nm,.bl g.fo,↥g.pa,↥g.ra])/\∃f∈fs,g.nm=f.nm/\g.pa=f.pa/\g.ps=f.ps/\g.ra=f.ra/\g.rs=f.rs/\g.rhs=f.rhs
 | [],[],_,_=>#[[],7,λ_ h=>absurd h Hh]
 | [],_::_,h,_=>by cases h
 | _::_,[],h,_=>by cases h
 | f::fs,v::vs,hl,h=>by
   let#[tp,rfl,e]:=h 0 f v rfl rfl;let#[gs,rfl,e2,e3]:=refold (fs:=fs) (vs:=vs) (Nat.succ.inj hl) λi f' v' h1 h2=>h (i+1) f' v' h1 h2;show#[#[tp,f.nm,false,f.pa,f.ps,f.ra,f.rs,f.rhs]::gs,rfl,by rw[Hn,Hn,e2],λg hg=>?_];rcases HM.mp hg with rfl|hg
   . show#[e,f,HH,127]
   . let#[a1,f',a2,a3]:=e3 g hg;show#[a1,f',Gz _ a2,a3]
def Prg.refold {fs gs:List Pf} (P:Prg K H fs) (s:aB H H') (e:gs.map (λf=>(f.nm,f.ps))=fs.map (λf=>(f.nm,f.ps))) (h:∀g∈gs,H' g.a=⇑(.tup [.str g.nm,.bl g.fo,↥g.pa,↥g.ra])/\∃f∈fs,g.nm=f.nm/\g.pa=f.pa/\g.ps=f.ps/\g.ra=f.ra/\g.rs=f.rs/\g.rhs=f.rhs):Prg K H' gs:=by
 have ln:gs.length=fs.length:=by have:=HY List.length e; rwa [Go,Go] at this
 show#[λz=>P.ne (IK (by rw[<- ln,z]; rfl)),by rw[ln]; exact P.le,λg hg=>?_,λg hg rh hr x g' p as q=>?_,?_,λg hg=>?_,λg hg=>(h g hg).1]
 . let#[a,f,hf,b1,b2,b3,b4,b5,b6]:=h g hg;have A:=(P.at_ f hf)*>s;show#[aN.of a,by rw[b2,b3]; exact A.pr,by rw[b4,b5]; exact A.rt,by rw[b5,b6]; exact A.rw_,by rw[b3]; exact A.l6,by rw[b6]; exact A.small]
 . let#[a,f,hf,b1,b2,b3,b4,b5,b6]:=h g hg;let#[f',m1,m2,m3]:=P.ci f hf rh (by rw[<- b6]; exact hr) x g' p as q;have hm:(f'.nm,f'.ps)∈gs.map λf=>(f.nm,f.ps):=by rw[e]; exact HX.mpr #[f',m1,rfl]
   let#[k,k1,k2]:=HX.mp hm;have a1:k.nm=f'.nm:=HY Prod.fst k2;have a2:k.ps=f'.ps:=HY Prod.snd k2;show#[k,k1,by rw[a1]; exact m2,by rw[a2]; exact m3]
 . have e1:gs.map Pf.nm=fs.map Pf.nm:=by have:=HY (List.map Prod.fst) e;rwa [IG,IG] at this
   rw[e1];exact P.nd
 . let#[a,f,hf,b1,b2,b3,b4,b5,b6]:=h g hg;have A:=P.ok f hf;show#[by rw[b6]; exact A.wf,by rw[b1]; exact A.nm,by rw[b3]; exact A.ps,by rw[b6]; exact A.rh,by rw[b6]; exact A.sg]
abbrev CF (K:Kh):Sp:=λvs H Q _=>∃(cl:Kg) (cs:List Int) (base most:Int),vs=[↥cl,.int base,.int most]/\aG K H cl (cs.map V.int)/\0<cs.length/\cs.length<=30/\∀l H' (fs:List Pf),H l=none->aB H H'->H' l=⇑(.lst (fs.map λf=>V.ref f.a))->Prg K H' fs->Q ↥l H'
abbrev yl (K:Kh):Sp:=λvs H Q _=>∃(a cl:Kg) (sc cs:List Int),vs=[↥a,↥cl]/\aG K H a (sc.map V.int)/\sc.length<=63/\H cl=⇑(.lst (cs.map V.int))/\cs.length<=27/\∀l H' (fs:List Pf),H l=none->aB H H'->H' l=⇑(.lst (fs.map λf=>V.ref f.a))->Prg K H' fs->Q ↥l H'
def GB {kvs:List (aE×V)} {cn:Cn} {y s:Str} {a b:V} {i j:Int} (ha:av kvs a=⇑(.int i)) (hb:av kvs b=⇑(.int j)) (h:0<=i/\0<=j/\i<K21.wide/\j<K21.wide):(RG.op y s a b).gives kvs cn=⇑(y,.int (K21.valOf s i j)):=by dsimp only[RG.gives];rw[ha,hb];exact HI h
abbrev rb (A:List Kg) (Hb H H1:Hp):Hp:=λb=>if b∈A then H1 b else gr Hb H H1 b
def eg (h:b∈A\/H b=none):rb A Hb H H1 b=H1 b:=by
 unfold rb gr;by_cases z:b∈A
 . rw[HI z]
 . rw[Gu z,h.resolve_left z]
def zm {cW cF:Kg} {w:Wr} {fs:List Fm} {oc:V} {sent:List V} {co:HO} {rc:Int} (h:WAt cW cF Hb H w fs oc sent co rc) (hA:∀b∈A,∃o,Hb b=⇑o) (s:aB (bJ A H) H1):WAt cW cF (K25.rb A Hb H H1) H1 w fs oc sent co rc:=by
 have nA:∀{b:Kg},Hb b=none->b ∉ A:=λhb z=>by let#[o,ho]:=hA _ z; rw[hb] at ho; cases ho
 have up:∀{b:Kg} {o:HO},H b=⇑o->Hb b=none->H1 b=⇑o:=λh1 h2=>s _ _ (by rw[dB (nA h2)]; exact h1);have no:∀{b:Kg} {o:HO},H b=⇑o->Hb b=none->K25.rb A Hb H H1 b=none:=λh1 h2=>by unfold K25.rb;rw[Gu (nA h2)];exact gq h1 h2
 show#[λb o hb=>?_,up h.o h.fa,up h.st h.fst,up h.sd h.fsd,up h.ct h.fct,λf hf=>#[up (h.fr f hf).o (h.ff f hf).1,up (h.fr f hf).n (h.ff f hf).2],h.na,h.nn,h.ne,h.nc,h.cs,h.nf,no h.o h.fa,no h.st h.fst,no h.sd h.fsd,no h.ct h.fct,λf hf=>#[no (h.fr f hf).o (h.ff f hf).1,no (h.fr f hf).n (h.ff f hf).2]];unfold K25.rb at hb;by_cases z:b∈A
 . rw[HI z] at hb; exact hb
 . rw[Gu z] at hb;unfold gr at hb;cases e:H b with
   | none=>rw[e] at hb; exact hb
   | some v=>rw[e] at hb; exact s _ _ (by rw[dB z]; exact h.b _ _ hb)
def EM (s0:aB H0 Hb) (sb:aB Hb H) (no:∀b∈A,H0 b=none):aB H0 (rb A Hb H H1):=λb o hb=>by unfold rb;rw[Gu (λz=>by rw[no b z] at hb; cases hb)];exact cH sb _ _ (s0 _ _ hb)
def Stk.rb {ls:List Lf} (st:Stk H1 sk ls) (h:∀b∈bO sk ls,b∈A\/H b=none):Stk (K25.rb A Hb H H1) sk ls :=
 #[by rw[eg (h sk HH)]; exact st.e,λx hx=>#[by rw[eg (h _ (iU hx).1)]; exact(st.fr x hx).1,by rw[eg (h _ (iU hx).2)]; exact(st.fr x hx).2],st.nl,st.nd,st.ns]
def ij {α:Type} {l:List α} {x y:α} (h:(l++[x])[i]?=⇑y):(i<l.length/\l[i]?=⇑y)\/(i=l.length/\x=y):=by
 rcases Hk i l.length with hi|hi
 . rw[IB hi] at h; exact .inl #[hi,h]
 . have:=(Gq.mp h).1;rw[Gv,Hr] at this;have e:i=l.length:=by lia
   rw[e,em] at h;cases h;exact .inr #[e,rfl]
def Alk.av {k1 k2:List (aE×V)} (a:Alk F k1 k2) (h:(∃i,v=.int i/\c6 i)\/∃n,v=.str n/\n∈F2.nms F):∃i,c6 i/\Wk.av k1 v=⇑(.int i)/\Wk.av k2 v=⇑(.int i):=by
 rcases h with⟨i,rfl,hi⟩|⟨n,rfl,hn⟩
 . show#[i,hi,7]
 . let#[i,h1,h2,h3]:=a.v n hn;show#[i,h1,h2,h3]
def jY (h:Fh K H F rgs) {rg:RH} (hr:rg∈rgs) {y:Str} (hv:V.str y∈rg.parts):y∈F2.nms F:=by
 rcases h.atom hr hv with⟨i,e,_⟩|⟨n,e,hn⟩
 . cases e
 . cases e; exact hn
def qi {F:F2.Fd} {k1 k2:List (aE×V)} (al:Alk F k1 k2):∀{as:List V},(∀a∈as,(∃i,a=.int i/\c6 i)\/∃n,a=.str n/\n∈F2.nms F)->∃vals:List V,as.length=vals.length/\(∀v∈vals,∃i,v=.int i/\c6 i)/\∀(i:Nat) a v,as[i]?=⇑a->vals[i]?=⇑v->av k1 a=⇑v/\av k2 a=⇑v
 | [],_=>#[[],rfl,(λ_ h=>by cases h),(λ_ _ _ h=>by cases h)]
 | a::as,h=>by
   let#[i,h1,h2,h3]:=al.av (h a HH);let#[vals,e1,e2,e3]:=qi al (as:=as) λb hb=>h b (Gz _ hb);show#[.int i::vals,by simp [e1],λv hv=>?_,λj b v hb hv=>?_]
   . rcases HM.mp hv with rfl|hv
     . show#[i,rfl,h1]
     . exact e2 v hv
   . cases j with
     | zero=>cases hb; cases hv; show#[h2,h3]
     | succ j=>exact e3 j b v ↑hb ↑hv
def jG {ls0:List Lf} {x x':Lf} (h1:x'.l=x.l) (h2:x'.d=x.d):bO sk (ls0++[x'])=bO sk (ls0++[x]):=by unfold bO;simp only[Gy,Hn,JM,h1,h2]
def GN {ls0:List Lf} {x:Lf} (h:b∈bO sk ls0):b∈bO sk (ls0++[x]):=by
 unfold bO at *;simp only[Gy,HM,HW,Hn,JM] at *;rcases h with h|h|h
 . exact .inl h
 . exact .inr (.inl (.inl h))
 . exact .inr (.inr (.inl h))
def ye {ls0:List Lf} {x:Lf} (h:b∈bO sk (ls0++[x])):b∈bO sk ls0\/b=x.l\/b=x.d:=by
 unfold bO at *;simp only[Gy,HM,HW,Hn,JM,Hh,or_false] at *;rcases h with h|(h|h)|h|h
 . exact .inl (.inl h)
 . exact .inl (.inr (.inl h))
 . exact .inr (.inl h)
 . exact .inl (.inr (.inr h))
 . exact .inr (.inr h)
def lK {k:Nat} {l:List Nat} (h:K13.Due ks k ⇑l):(K13.isO (K13.kd ks k)=true/\∃f r1 r2,l=[r1,r2]/\K13.First ks k f/\K13.Beh ks k r1/\K13.Beh ks f r2)\/(¬ K13.isO (K13.kd ks k)=true/\¬ K13.kd ks k="back"/\∃r,l=[r]/\K13.Beh ks k r)\/(K13.kd ks k="back"/\l=[]):=by
 cases h with
 | back h=>exact .inr (.inr #[h,rfl])
 | two a b c d=>exact .inl #[a,17,b,c,d]
 | one a b c d=>exact .inr (.inl #[c,b,5,d])
def GX {k:Nat}(h:K13.Beh ks k r):¬ K13.kd ks r="else"/\¬ K13.kd ks r="end":=by
 induction h with
 | els _ _ _ _ ih=>exact ih
 | whl _ _ h=>rw[h]; decide +kernel
 | fin _ _ _ _ ih=>exact ih
 | oth a b=>show#[a,b]
def mz (w:K13.Wf (rgs.map RH.kind)) {k:Nat}(hk:k+1<rgs.length) (h:K13.Beh (rgs.map RH.kind) k r):∃rg,rgs[r]?=⇑(.rg rg):=by
 let#[r',h1,h2]:=K13.beh_ex w _ k rfl (by rw[Go]; exact hk);rw[<- h.uniq h1,Go] at h2;have e:rgs[r]?=some rgs[r]:=HN h2;have hs:=GX h;rw[ji e] at hs;cases q:rgs[r] with
 | rg x=>show#[x,by rw[e,q]]
 | els=>rw[q] at hs; exact absurd rfl hs.1
 | fin=>rw[q] at hs; exact absurd rfl hs.2
def Fh.stop (h:Fh K H F rgs) {k j:Nat}{rg:RG} (hk:rgs[k]?=⇑(.rg rg)) (hw:cD F k j r):∃rg,rgs[r]?=⇑(.rg rg):=by
 let#[l,hd,hl]:=hw;rw[h.kds] at hd;have hlt:=(Gq.mp hk).1;have w:=h.wf;have nl:∀{i},i<rgs.length->¬ K13.kd (rgs.map RH.kind) i="back"->i+1<rgs.length:=λa b=>by have:=K13.not_last w (k:=_) (by rw[Go]; exact a) b;rwa [Go] at this
 rcases lK hd with⟨ho,f,r1,r2,rfl,hf,h1,h2⟩|⟨_,nb,r1,rfl,h1⟩|⟨_,rfl⟩
 . have nb:¬ K13.kd (rgs.map RH.kind) k="back":=λz=>by rw[z] at ho; exact K13.back_O ho
   match j,hl with
   | 0,hl=>cases hl; exact mz w (nl hlt nb) h1
   | 1,hl =>
     cases hl;have:=K13.first_last w hf;rw[Go] at this;exact mz w this h2
   | j+2,hl=>simp at hl
 . match j,hl with
   | 0,hl=>cases hl; exact mz w (nl hlt nb) h1
   | j+1,hl=>simp at hl
 . simp at hl
def Fh.ways (h:Fh K H F rgs) {k:Nat} {rg:RG} (hk:rgs[k]?=⇑(.rg rg)) (nb:∀a,rg≠.back a):(∃r,cD F k 0 r)/\(((∃a,rg=.ifs a)\/∃a,rg=.whl a)->∃r,cD F k 1 r):=by
 have hlt:=(Gq.mp hk).1;let#[o,ho]:=K13.due_ex h.wf (k:=k) (by rw[Go]; exact hlt);have hkd:K13.kd (rgs.map RH.kind) k=rg.kind:=ji hk;have ne:¬ K13.isE rg.kind=true:=by
   have key:∀k∈([("out":Str),"copy","op","back","new","get","put","call","if","while"]:List Str),¬ K13.isE k=true:=by decide +kernel
   cases rg <;> exact key _ (by simp [RG.kind])
 cases o with
 | none =>
   cases ho with
   | no z=>rw[hkd] at z; exact absurd z ne
 | some l =>
   rcases lK ho with⟨_,f,r1,r2,rfl,_⟩|⟨no,_,r1,rfl,_⟩|⟨z,rfl⟩
   . show#[#[r1,_,by rw[h.kds]; exact ho,rfl],λ_=>#[r2,_,by rw[h.kds]; exact ho,rfl]]
   . show#[#[r1,_,by rw[h.kds]; exact ho,rfl],λz=>absurd ?_ no];rw[hkd];rcases z with⟨a,rfl⟩|⟨a,rfl⟩
     . exact(by decide +kernel:K13.isO ("if":Str)=true)
     . exact(by decide +kernel:K13.isO ("while":Str)=true)
   . rw[hkd] at z;exact absurd z (C0 nb)
def Stk.cong {ls:List Lf} (st:Stk G sk ls) (h:∀b∈bO sk ls,H b=G b):Stk H sk ls :=
 #[by rw[h _ HH]; exact st.e,λx hx=>#[by rw[h _ (iU hx).1]; exact(st.fr x hx).1,by rw[h _ (iU hx).2]; exact(st.fr x hx).2],st.nl,st.nd,st.ns]
def Stk.giv {W:List Kg} {ls0:List Lf} {x:Lf} {kvs:List (aE×V)} (st:Stk H sk (ls0++[x])) (s:aB (bJ W H) H') (hW:∀b∈bO sk (ls0++[x]),b∈W->b=x.d) (hd:H' x.d=⇑(.dK kvs)):Stk H' sk (ls0++[{ x with kvs:=kvs }]):=by
 refine(Stk.dic (kvs:=kvs) st).cong λb hb=>?_;by_cases z:b=x.d
 . rw[z,hd,aI]
 . rw[aJ z];have hb':b∈bO sk (ls0++[x]):=by rw[<- jG (x:=x) (x':={ x with kvs:=kvs }) rfl rfl]; exact hb
   let#[o,ho]:=st.all hb';rw[ho];exact s _ _ (by rw[dB (λq=>z (hW b hb' q))]; exact ho)
def Stk.kind {ls:List Lf} (st:Stk H sk ls) (hb:b∈bO sk ls):(∃l,H b=⇑(.lst l))\/∃k,H b=⇑(.dK k):=by
 rcases HM.mp hb with rfl|hb
 . exact .inl #[_,st.e]
 . rcases HW.mp hb with hb|hb
   . let#[x,hx,rfl]:=HX.mp hb;exact .inl #[_,(st.fr x hx).1]
   . let#[x,hx,rfl]:=HX.mp hb;exact .inr #[_,(st.fr x hx).2]
structure Apt (A:List Addr) (st sl:Addr):Prop where
 s1:st ∉ A
 s2:sl ∉ A
def m9 {B:List Kg}(s:aB (bJ A H) H') (h:∀b∈A,b∈B):aB (bJ B H) H':=λb o e=>by
 by_cases z:b∈B
 . rw[mr z] at e; cases e
 . exact s b o (by rw[dB (λq=>z (h b q))]; rw[dB z] at e; exact e)
def fj {H2:Hp}(s:aB (bJ A H) H1) (s2:aB (bJ A H1) H2):aB (bJ A H) H2:=λb o e=>by
 by_cases z:b∈A
 . rw[mr z] at e; cases e
 . exact s2 b o (by rw[dB z]; exact s b o e)
def Sto.keep {st:Kg}{fk:List (List aE×V)} {li:Int} {lf:Str} {made:Int} {sents:List V} {ans:V} {ls:List Lf} (S:Sto H st fd la sl fk li lf made sents ans) (K_:Stk H sk ls) (ap:Apt (bO sk ls) st sl) (s:aB (bJ (bO sk ls) H) H'):Sto H' st fd la sl fk li lf made sents ans:=by
 have nfd:fd ∉ bO sk ls:=λz=>by rcases K_.kind z with⟨l,e⟩|⟨l,e⟩ <;> rw[S.fd_] at e <;> cases e
 have nla:la ∉ bO sk ls:=λz=>by rcases K_.kind z with⟨l,e⟩|⟨l,e⟩ <;> rw[S.la_] at e <;> cases e
 show#[s _ _ (by rw[dB ap.s1]; exact S.st_),s _ _ (by rw[dB nfd]; exact S.fd_),s _ _ (by rw[dB nla]; exact S.la_),s _ _ (by rw[dB ap.s2]; exact S.sl_)]
abbrev LMv (K:Kh) (H0 H:Hp) (A:List Kg) (fas:List Kg) (sk st fd la sl:Kg) (ls0:List Lf) (x:Lf) (fk:List (List aE×V)) (li:Int) (lf:Str) (made:Int) (sents:List V) (ans:V) (Q:VK):RG->Prop
 | .copy y a=>∃v,av x.kvs a=⇑(.int v)/\∀r H',cD x.F x.at_ 0 r->aB (bJ A H) H'->Stk H' sk (ls0++[{ x with kvs:=aQ x.kvs (Sum.inr y:aE) (.int v),at_:=r }])->Sto H' st fd la sl fk li lf made sents ans->Q .non H'
 | .op y s a b=>∃i j,av x.kvs a=⇑(.int i)/\av x.kvs b=⇑(.int j)/\c6 i/\c6 j/\s∈fI/\∀r H',cD x.F x.at_ 0 r->aB (bJ A H) H'->Stk H' sk (ls0++[{ x with kvs:=aQ x.kvs (Sum.inr y:aE) (.int (K21.valOf s i j)),at_:=r }])->Sto H' st fd la sl fk li lf made sents ans->Q .non H'
 | .get y a f=>∃i a',av x.kvs a=⇑(.int i)/\av (aQ x.kvs (Sum.inr y:aE) ((aZ fk (Wk.fk i f)).getD (.int 0))) a=⇑(.int a')/\∀la' r H',H la'=none->cD x.F x.at_ 0 r->aB (bJ A H) H'->Stk H' sk (ls0++[{ x with kvs:=aQ x.kvs (Sum.inr y:aE) ((aZ fk (Wk.fk i f)).getD (.int 0)),at_:=r }])->Sto H' st fd la' sl fk a' f made sents ans->Q .non H'
 | .put a f b=>∃i j,av x.kvs a=⇑(.int i)/\av x.kvs b=⇑(.int j)/\∀la' tp r H',H la'=none->H tp=none->cD x.F x.at_ 0 r->aB (bJ A H) H'->Stk H' sk (ls0++[{ x with at_:=r }])->Sto H' st fd la' sl (aQ fk (Wk.fk i f) (.int j)) i f made sents ans->H' tp=⇑(.tup [.str "put",.int i,.str f,.int j])->Q ↥tp H'
 | .new y=>∀tp r H',H tp=none->cD x.F x.at_ 0 r->aB (bJ A H) H'->Stk H' sk (ls0++[{ x with kvs:=aQ x.kvs (Sum.inr y:aE) (.int (made+1)),at_:=r }])->Sto H' st fd la sl fk li lf (made+1) sents ans->H' tp=⇑(.tup [.str "new",.int (made+1)])->Q ↥tp H'
 | .out a=>∃i,av x.kvs a=⇑(.int i)/\∀tp r H',H tp=none->cD x.F x.at_ 0 r->aB (bJ A H) H'->Stk H' sk (ls0++[{ x with at_:=r }])->Sto H' st fd la sl fk li lf made (sents++[.int i]) ans->H' tp=⇑(.tup [.str "out",.int i])->Q ↥tp H'
 | .ifs a=>∃i,av x.kvs a=⇑(.int i)/\∀r H',cD x.F x.at_ (if i≠0 then 0 else 1) r->aB (bJ A H) H'->Stk H' sk (ls0++[{ x with at_:=r }])->Sto H' st fd la sl fk li lf made sents ans->Q .non H'
 | .whl a=>∃i,av x.kvs a=⇑(.int i)/\∀r H',cD x.F x.at_ (if i≠0 then 0 else 1) r->aB (bJ A H) H'->Stk H' sk (ls0++[{ x with at_:=r }])->Sto H' st fd la sl fk li lf made sents ans->Q .non H'
 | .call _ g _ as=>∃(vals:List V) (F:F2.Fd) (rgs:List RH),as.length=vals.length/\as.length<=10/\(∀(i:Nat) a v,as[i]?=⇑a->vals[i]?=⇑v->av x.kvs a=⇑v)/\(∀v∈vals,∃i,v=.int i/\c6 i)/\Fh K H0 F rgs/\F.name=g/\F.ps.length=vals.length/\F.fa∈fas/\(∀a∈fas,∃nm rest,aN K H0 a (.str nm::rest)/\(nm=g <-> a=F.fa))/\∀H' x',aB (bJ A H) H'->x'.F=F->x'.at_=0->Alk F (eI F vals) x'.kvs->H x'.l=none->H x'.d=none->Stk H' sk (ls0++[x]++[x'])->Sto H' st fd la sl fk li lf made sents ans->Q .non H'
 | .back a=>∃v,av x.kvs a=⇑(.int v)/\(ls0=[]->∀H',aB (bJ A H) H'->Stk H' sk []->Sto H' st fd la sl fk li lf made sents (.int v)->Q .non H')/\∀ls1 y,ls0=ls1++[y]->y.kvs.length<100000/\∃(rgs:List RH) (z g:Str) (p:Kg) (as:List V),Fh K H0 y.F rgs/\rgs[y.at_]?=⇑(.rg (.call z g p as))/\∀r H',cD y.F y.at_ 0 r->aB (bJ A H) H'->Stk H' sk (ls1++[{ y with kvs:=aQ y.kvs (Sum.inr z:aE) (.int v),at_:=r }])->Sto H' st fd la sl fk li lf made sents (.int v)->Q .non H'
noncomputable abbrev dL (st fd sl sk:Kg) (ls:List Lf):List Kg:=st::fd::sl::bO sk ls
abbrev AE (K:Kh):Sp:=λvs H Q _=>∃(H0:Hp) (sk pl st fd la sl:Kg) (fas:List Kg) (ls0:List Lf) (x:Lf) (rgs:List RH) (rg:RG) (fk:List (List aE×V)) (li:Int) (lf:Str) (made:Int) (sents:List V) (ans:V),vs=[↥sk,↥pl,↥st]/\aB H0 H/\(∀b∈dL st fd sl sk (ls0++[x]),H0 b=none)/\Stk H sk (ls0++[x])/\ls0.length<=900/\Sto H st fd la sl fk li lf made sents ans/\Apt (bO sk (ls0++[x])) st sl/\fk.length<100000/\sents.length<100000/\x.kvs.length<100000/\aG K H0 pl (fas.map V.ref)/\Fh K H0 x.F rgs/\rgs[x.at_]?=⇑(.rg rg)/\LMv K H0 H (dL st fd sl sk (ls0++[x])) fas sk st fd la sl ls0 x fk li lf made sents ans Q rg
def mo (s0:aB H0 H) (no:∀b∈A,H0 b=none) (s:aB (bJ A H) G):aB H0 G:=λb o e=>s _ _ (by rw[dB (λz=>by rw[no b z] at e; cases e)]; exact s0 _ _ e)
def Dc {rg:RG} (h:rg.kind="back"):∃a,rg=.back a:=by
 have key:∀k∈([("out":Str),"copy","op","call","new","get","put","if","while"]:List Str),¬ k="back":=by decide +kernel
 cases rg with
 | back a=>show#[a,rfl]
 | _=>exact absurd h (key _ (by simp [RG.kind]))
def uY {made:Int} {ans:V}:aZ (bj fd la made sl ans) (Sum.inr "answer":aE)=⇑ans:=rfl
def EI {made:Int} {ans:V}:aQ (bj fd la made sl ans) (Sum.inr "answer":aE) v=bj fd la made sl v:=rfl
def Sto.ans {st:Kg}{fk:List (List aE×V)} {li:Int} {lf:Str} {made:Int} {sents:List V} {ans:V}(S:Sto H st fd la sl fk li lf made sents ans):Sto (upd H st (.dK (bj fd la made sl v))) st fd la sl fk li lf made sents v :=
 #[aI,by rw[aJ (λz=>by have:=S.fd_; rw[z,S.st_] at this; cases this)]; exact S.fd_,by rw[aJ (λz=>by have:=S.la_; rw[z,S.st_] at this; cases this)]; exact S.la_,by rw[aJ (λz=>by have:=S.sl_; rw[z,S.st_] at this; cases this)]; exact S.sl_]
def Fh.beh (h:Fh K H F rgs) {k:Nat}{rg:RG} (hk:rgs[k]?=⇑(.rg rg)) (hw:cD F k 0 r):K13.Beh (rgs.map RH.kind) k r/\k+1<rgs.length:=by
 let#[l,hd,hl]:=hw;rw[h.kds] at hd;have hlt:=(Gq.mp hk).1;have nl:¬ K13.kd (rgs.map RH.kind) k="back"->k+1<rgs.length:=λb=>by have:=K13.not_last h.wf (k:=k) (by rw[Go]; exact hlt) b;rwa [Go] at this
 rcases lK hd with⟨ho,f,r1,r2,rfl,hf,h1,h2⟩|⟨_,nb,r1,rfl,h1⟩|⟨_,rfl⟩
 . cases hl; show#[h1,nl λz=>by rw[z] at ho; exact K13.back_O ho]
 . cases hl; show#[h1,nl nb]
 . cases hl
def Fh.beh1 (h:Fh K H F rgs) {k:Nat}(hw:cD F k 1 r):∃f,K13.First (rgs.map RH.kind) k f/\K13.Beh (rgs.map RH.kind) f r/\f+1<rgs.length/\k<f:=by
 let#[l,hd,hl]:=hw;rw[h.kds] at hd;rcases lK hd with⟨ho,f,r1,r2,rfl,hf,h1,h2⟩|⟨_,nb,r1,rfl,h1⟩|⟨_,rfl⟩
 . cases hl;have:=K13.first_last h.wf hf;rw[Go] at this;show#[f,hf,h2,this,(K13.hit_lt hf.2.1).1]
 . cases hl
 . cases hl
abbrev Md (H:Hp) (A:List Kg) (sk st fd sl:Kg) (ls0:List Lf) (x:Lf) (ans:V) (Q:VK) (j:Nat) (dv:V) (G:Hp):Prop:=aB (bJ A H) G/\∃(kvs2:List (aE×V)) (la2:Kg) (fk2:List (List aE×V)) (li2:Int) (lf2:Str) (made2:Int) (sents2:List V),Stk G sk (ls0++[{ x with kvs:=kvs2 }])/\Sto G st fd la2 sl fk2 li2 lf2 made2 sents2 ans/\∀r G',cD x.F x.at_ j r->aB (bJ A G) G'->Stk G' sk (ls0++[{ x with kvs:=kvs2,at_:=r }])->Sto G' st fd la2 sl fk2 li2 lf2 made2 sents2 ans->Q dv G'
def Md.mono {H G G2:Hp} {A:List Kg} {sk st fd sl:Kg} {ls0:List Lf} {x:Lf} {ans:V} {Q:VK} {j:Nat} {dv:V} (M:Md H A sk st fd sl ls0 x ans Q j dv G) (e:aB G G2):Md H A sk st fd sl ls0 x ans Q j dv G2:=by let#[a,k2,la2,fk2,li2,lf2,m2,se2,b,c,d]:=M;show#[a\e,k2,la2,fk2,li2,lf2,m2,se2,b*>e,c*>e,λr G' hw s=>d r G' hw (fj (dm\e) s)]
abbrev RoJ (rg:RG) (x:Lf) (G:Hp) (j:Nat):Prop:=(¬ K13.isO rg.kind=true/\j=0)\/∃a i,(rg=.ifs a\/rg=.whl a)/\j=(if i≠0 then 0 else 1)/\av x.kvs a=⇑(.int i)/\G x.d=⇑(.dK x.kvs)
def B9 {K:Kh} {C x l:Kg} {fns:List F2.Fd} (h:F2.FlowsAt K C H x fns) (hl:H l=⇑(.lst xs)) (hne:xs≠[]) (hs:∀v∈xs,(∀s,v≠.str s)/\v≠.non/\∀p ns,v=↥p->H p≠⇑(.tup (K13.natsV ns))):F2.FlowsAt K C (upd H l o) x fns:=by
 let#[dx,fz,d,kv,nl,wl,h0,h1,h2,h3,h4,h5,h6,h7,h8]:=h.ob;have key:∀{b:Kg} {u:HO},H b=⇑u->u≠.lst xs->upd H l o b=⇑u:=λ{b u} hb hu=>by
   have:b≠l:=λz=>by rw[z,hl] at hb; exact hu (Option.some.inj hb).symm
   rw[aJ this]; exact hb
 show#[λf hf=>K55.fnAt_ts (h.all f hf) (K55.TS.lst hl),h.nd,#[dx,fz,d,kv,nl,wl,h0,#[key h1.ob 0x6,λj hj=>key (h1.dc j hj) 0x6],h2,h3,h4,h5,h6,h7,λi f hi=>#[key (h8 i f hi).1 ?_,?_]]]
 . intro z;have z:(F2.nms f).map V.str=xs:=by injection z
   cases e:F2.nms f with
   | nil=>rw[e] at z; exact hne z.symm
   | cons n r=>rw[e] at z; exact(hs (V.str n) (by rw[<- z]; simp)).1 n rfl
 let#[vs,e1,e2,e3]:=(h8 i f hi).2;show#[vs,key e1 ?_,e2,λk v q=>?_]
 . intro z;have z:vs=xs:=by injection z
   cases e:vs with
   | nil=>rw[e] at z; exact hne z.symm
   | cons v r =>
     let#[oo,due,vo]:=e3 0 v (by rw[e]; rfl);have hv:=hs v (by rw[<- z,e]; simp);cases oo with
     | none=>exact hv.2.1 vo
     | some ns=>let#[p,z1,z2]:=vo; exact hv.2.2 p ns z1 z2
 . let#[oo,due,vo]:=e3 k v q;show#[oo,due,?_];cases oo with
   | none=>exact vo
   | some ns=>let#[p,z1,z2]:=vo; show#[p,z1,key z2 0x6]
abbrev fC (ps:List Pf) (C:Prop) (f:Fm) (x:Lf):Prop:=f.fn=x.F.name/\f.row=x.at_/\Alk x.F f.kvs x.kvs/\∃p∈ps,x.F=cf p/\(∃rg,p.rhs[x.at_]?=⇑(.rg rg))/\(C->∃y g q as,p.rhs[x.at_]?=⇑(.rg (.call y g q as)))
abbrev Tw (ps:List Pf) (fs:List Fm) (ls:List Lf):Prop:=∀(i:Nat) f x,fs[i]?=⇑f->ls[i]?=⇑x->fC ps (i+1<ls.length) f x
def fC.weak {ps:List Pf} {C D:Prop} {x:Lf} (h:fC ps C f x) (hc:D->C):fC ps D f x:=by let#[a,b,c,p,e1,e2,e3,e4]:=h; show#[a,b,c,p,e1,e2,e3,λz=>e4 (hc z)]
def rq {ps:List Pf} {fs:List Fm} {ls:List Lf} {x:Lf} (hl:fs.length=ls.length) (h:Tw ps (fs++[f]) (ls++[x])):∀(i:Nat) f x,fs[i]?=⇑f->ls[i]?=⇑x->fC ps True f x:=λi g y hg hy=>by
 have hi:=(Gq.mp hy).1;refine(h i g y (by rw[IB ∅]; exact hg) (by rw[IB hi]; exact hy)).weak (λ_=>?_);rw[Gv,Hr]
 lia
def nP {ps:List Pf} {fs:List Fm} {ls:List Lf} {x:Lf} (hl:fs.length=ls.length) (h:∀(i:Nat) f x,fs[i]?=⇑f->ls[i]?=⇑x->fC ps True f x) (h1:fC ps False f x):Tw ps (fs++[f]) (ls++[x]):=λi g y hg hy=>by
 rcases ij hg with⟨h2,h3⟩|⟨h2,h3⟩
 . rcases ij hy with⟨h4,h5⟩|⟨h4,h5⟩
   . exact(h i g y h3 h5).weak λ_=>trivial
   . lia
 . rcases ij hy with⟨h4,h5⟩|⟨h4,h5⟩
   . lia
   . subst h3 h5;refine h1.weak (λz=>?_);rw[Gv,Hr] at z
     lia
def GJ {ps:List Pf} {fs:List Fm} {ls:List Lf} {x:Lf} (hl:fs.length=ls.length) (h:∀(i:Nat) f x,fs[i]?=⇑f->ls[i]?=⇑x->fC ps True f x) (h1:fC ps True f x):∀(i:Nat) g y,(fs++[f])[i]?=⇑g->(ls++[x])[i]?=⇑y->fC ps True g y:=λi g y hg hy=>by
 rcases ij hg with⟨h2,h3⟩|⟨h2,h3⟩
 . rcases ij hy with⟨h4,h5⟩|⟨h4,h5⟩
   . exact h i g y h3 h5
   . lia
 . rcases ij hy with⟨h4,h5⟩|⟨h4,h5⟩
   . lia
   . subst h3 h5; exact h1
structure Few (n:Nat) (fs:List Fm) (sent:List V) (cn:Cn):Prop where
 f:fs.length<=n+1
 s:sent.length<=n
 c:cn.kv.length<=n
 r:0<=cn.rc/\cn.rc<=n
 v:∀k u,aZ cn.kv k=⇑u->∃i,u=.int i/\c6 i
 i:∀v∈sent,∃z,v=.int z
structure Sta (K:W.Frag) (t:Adr) (H0 Hb H:Hp) (w:Wr) (fs:List Fm) (sent:List V) (cn:Cn) (ps:List Pf) (sk:Addr) (ls:List Lf) (st fd la sl:Addr) (li:Int) (lf:Str) (ans:V) (n:Nat):Prop where
 wa:WA t Hb H w fs .non sent cn
 fl:F2.FlowsAt K t.bR H0 w.fl (ps.map cf)
 pg:Prg K H0 ps
 s0:aB H0 Hb
 st_:Stk Hb sk ls
 so:Sto Hb st fd la sl cn.kv li lf cn.rc sent ans
 no:∀b∈dL st fd sl sk ls,H0 b=none
 ap:Apt (bO sk ls) st sl
 len:fs.length=ls.length
 few:Few n fs sent cn
 tw:Tw ps fs ls
section
variable {H0 Hb H H':Hp} {w:Wr} {fs:List Fm} {sent:List V} {cn:Cn} {ps:List Pf} {sk:Kg} {ls:List Lf} {st fd la sl:Kg} {li:Int} {lf:Str} {ans:V} {n:Nat}
def Sta.grow (S:Sta K t H0 Hb H w fs sent cn ps sk ls st fd la sl li lf ans n) (e:aB H H'):Sta K t H0 (gr Hb H H') H' w fs sent cn ps sk ls st fd la sl li lf ans n :=
 #[S.wa.grow e,S.fl,S.pg,S.s0.trans (cH S.wa.b),S.st_.mono (cH S.wa.b),S.so.mono (cH S.wa.b),S.no,S.ap,S.len,S.few,S.tw]
def Prg.fh {p:Pf} (P:Prg K H0 ps) (h:p∈ps):Fh K H0 (cf p) p.rhs:=ya (P.at_ p h) (P.ok p h)
def Prg.one {p q:Pf} (P:Prg K H0 ps) (hp:p∈ps) (hq:q∈ps) (e:p.nm=q.nm):p=q:=by
 let#[i,hi]:=Hy hp;let#[j,hj]:=Hy hq;have a1:(ps.map Pf.nm)[i]?=⇑q.nm:=by rw[HV,hi]; exact HY some e
 have a2:(ps.map Pf.nm)[j]?=⇑q.nm:=by rw[HV,hj]; rfl
 have:=(JB (Gq.mp a1).1 P.nd).mp (a1\a2.symm);rw[this,hj] at hi;cases hi;rfl
def nL (h:∀k u,aZ cn.kv k=⇑u->∃i,u=.int i/\c6 i) (i:Int) (f:Str):∃z,j7 cn i f=.int z/\c6 z:=by
 unfold j7;cases e:aZ cn.kv (Wk.fk i f) with
 | none=>show#[(0),rfl,#[],#[]]
 | some v =>
   let#[z,rfl,hv]:=h _ v e;show#[z,rfl,hv]
def nu (h1:H a=⇑(.tup xs)) (h2:H b=⇑(.tup xs)) (h:Bg.HasA K H 1 xs):Bg.Twin K H 2 ↥a ↥b:=Bg.Twin.tup (aN.of h1) (aN.of h2) (Bg.TwinA.of h)
def Few.keep {fs2:List Fm} (h:Few n fs sent cn) (e:fs2.length<=fs.length+1):Few (n+1) fs2 sent cn:=#[by have:=h.f; lia,Ja h.s,Ja h.c,#[h.r.1,by have:=h.r.2; lia],h.v,h.i]
def yj (h:Hb b=⇑o) (hb:aB Hb H) (n:b ∉ A):rb A Hb H H1 b=⇑o:=by unfold rb gr;rw[Gu n,hb _ _ h];exact h
end
def Fh.row0 (h:Fh K H F rgs):∃rg,rgs[0]?=⇑(.rg rg):=by
 have w:=h.wf;have hp:=w.pos;rw[Go] at hp;have e:rgs[0]?=some rgs[0]:=HN hp;have ne:=λz=>w.open_ 0 (by rw[Go]; exact hp) z rfl;rw[ji e] at ne;cases q0:rgs[0] with
 | rg x=>show#[x,by rw[e,q0]]
 | els=>rw[q0] at ne; exact absurd 0x7 ne
 | fin=>rw[q0] at ne; exact absurd 0x7 ne
def EK {w:Wr} {fs0:List Fm} {sent:List V} {cn:Cn} {ps:List Pf} {ls0:List Lf} {x:Lf} {st:Kg}{li:Int} {lf:Str} {ans:V} {p:Pf} {rg:RG} {Q:VK} {Q':V->VK} (S:Sta K t H0 Hb H w (fs0++[f]) sent cn ps sk (ls0++[x]) st fd la sl li lf ans n) (hp:p∈ps) (hF:x.F=cf p) (hrg:p.rhs[x.at_]?=⇑(.rg rg)) (hn:n<=40)
   (hQ:∀dv Hb1 H1,WA t Hb1 H1 w (fs0++[f]) .non sent cn->aB H0 Hb1->qt K t Hb1 w fs0 f sent cn (ps.map cf) x.F (Q' dv) rg->Q dv H1)
   (go:∀dv dv2 Hb2 H2 fs2 sent2 cn2 ls2 la2 li2 lf2 ans2,Sta K t H0 Hb2 H2 w fs2 sent2 cn2 ps sk ls2 st fd la2 sl li2 lf2 ans2 (n+1)->ls2≠[]->Bg.Twin K H2 2 dv dv2->Q' dv dv2 H2)
   (fin:∀Hb2 H2 v,WA t Hb2 H2 w [] (.int v) sent cn->aB H0 Hb2->Stk Hb2 sk []->Sto Hb2 st fd la sl cn.kv li lf cn.rc sent (.int v)->Q' .non .non H2):LMv K H0 H (dL st fd sl sk (ls0++[x])) (ps.map Pf.a) sk st fd la sl ls0 x cn.kv li lf cn.rc sent ans Q rg:=by
 have hlen:fs0.length=ls0.length:=by have:=S.len; rw[Gv,Gv] at this; simpa using this
 have fg:Fh K H0 x.F p.rhs:=by rw[hF]; exact S.pg.fh hp
 have hFm:x.F∈ps.map cf:=by rw[hF]; exact HX.mpr #[p,hp,rfl]
 let#[m1,m2,al,_]:=S.tw ls0.length f x (by rw[<- hlen]; exact em _ _) (em _ _);have low:=rq hlen S.tw;have fw:=S.few;have hA:∀b∈dL st fd sl sk (ls0++[x]),∃o,Hb b=⇑o:=λb hb=>by
   rcases HM.mp hb with rfl|hb
   . show#[_,S.so.st_]
   rcases HM.mp hb with rfl|hb
   . show#[_,S.so.fd_]
   rcases HM.mp hb with rfl|hb
   . show#[_,S.so.sl_]
   exact S.st_.all hb
 generalize hAe:dL st fd sl sk (ls0++[x])=A at hA;have A1:st∈A/\fd∈A/\sl∈A:=by rw[<- hAe]; show#[HH,Gz _ HH,Gz _ (Gz _ HH)]
 have A2:∀b∈bO sk (ls0++[x]),b∈A:=λb hb=>by rw[<- hAe]; exact Gz _ (Gz _ (Gz _ hb))
 have no:∀b∈A,H0 b=none:=by rw[<- hAe]; exact S.no
 have laA:la ∉ A:=λz=>by
   rw[<- hAe] at z;rcases HM.mp z with e|z
   . have:=S.so.la_; rw[e,S.so.st_] at this; cases this
   rcases HM.mp z with e|z
   . have:=S.so.la_; rw[e,S.so.fd_] at this; cases this
   rcases HM.mp z with e|z
   . have:=S.so.la_; rw[e,S.so.sl_] at this; cases this
   rcases S.st_.kind z with⟨l,e⟩|⟨l,e⟩ <;> rw[S.so.la_] at e <;> cases e
 have wa1:∀H1,aB (bJ A H) H1->WA t (rb A Hb H H1) H1 w (fs0++[f]) .non sent cn:=λH1 s=>zm S.wa hA s;have sm0:∀H1,aB H0 (rb A Hb H H1):=λH1=>EM S.s0 S.wa.b no;have soO:∀{H1:Hp} {fk2:List (List aE×V)} {m2:Int} {se2:List V} {an2:V},Sto H1 st fd la sl fk2 li lf m2 se2 an2->Sto (rb A Hb H H1) st fd la sl fk2 li lf m2 se2 an2:=λT=>#[by rw[eg (.inl A1.1)]; exact T.st_,by rw[eg (.inl A1.2.1)]; exact T.fd_,yj S.so.la_ S.wa.b laA,by rw[eg (.inl A1.2.2)]; exact T.sl_]
 have soN:∀{H1:Hp} {la2:Kg} {fk2:List (List aE×V)} {li2:Int} {lf2:Str} {m2:Int} {se2:List V} {an2:V},H la2=none->Sto H1 st fd la2 sl fk2 li2 lf2 m2 se2 an2->Sto (rb A Hb H H1) st fd la2 sl fk2 li2 lf2 m2 se2 an2:=λh T=>#[by rw[eg (.inl A1.1)]; exact T.st_,by rw[eg (.inl A1.2.1)]; exact T.fd_,by rw[eg (.inr h)]; exact T.la_,by rw[eg (.inl A1.2.2)]; exact T.sl_]
 have ead:∀{k:List (aE×V)} {r:Nat},bO sk (ls0++[{ x with kvs:=k,at_:=r }])=bO sk (ls0++[x]):=λ{k r}=>jG (x:=x) (x':={ x with kvs:=k,at_:=r }) rfl rfl;have hm:RH.rg rg∈p.rhs:=He hrg;have atom:∀{v},v∈(RH.rg rg).parts->∃i,c6 i/\av f.kvs v=⇑(.int i)/\av x.kvs v=⇑(.int i):=λhv=>al.av (fg.atom hm hv);have lk:=al.l;have same:∀{k2:List (aE×V)} {k1:List (aE×V)} {r:Nat} {dv dv2:V} {H1 Hb2 H2:Hp} {la2:Kg} {cn2:Cn} {li2:Int} {lf2:Str} {se2:List V} {an2:V},Alk x.F k1 k2->cD x.F x.at_ 0 r\/cD x.F x.at_ 1 r->Stk H1 sk (ls0++[{ x with kvs:=k2,at_:=r }])->Sto (rb A Hb H H1) st fd la2 sl cn2.kv li2 lf2 cn2.rc se2 an2->Few (n+1) (fs0++[f]) se2 cn2->aB (rb A Hb H H1) Hb2->WA t Hb2 H2 w (fs0++[{ f with kvs:=k1,row:=r }]) .non se2 cn2->Bg.Twin K H2 2 dv dv2->Q' dv dv2 H2:=λ{k2 k1 r dv dv2 H1 Hb2 H2 la2 cn2 li2 lf2 se2 an2} al2 hw st1 so1 fw1 s2 h2 tw2=>by
   have hst:∃rg,p.rhs[r]?=⇑(.rg rg):=hw.elim (fg.stop hrg) (fg.stop hrg);refine go dv dv2 Hb2 H2 _ se2 cn2 _ la2 li2 lf2 an2 #[h2,S.fl,S.pg,(sm0 H1)\s2,(st1.rb (λb hb=>.inl (A2 b (by rw[<- ead]; exact hb))))*>s2,so1*>s2,?_,?_,(by simp [hlen]),#[by have:=fw1.f; simpa using this,fw1.s,fw1.c,fw1.r,fw1.v,fw1.i],nP hlen low #[m1,rfl,al2,p,hp,hF,hst,λz=>z.elim]] 0xA tw2
   . intro b hb;unfold dL at hb;rw[ead] at hb;exact no b (by rw[<- hAe]; exact hb)
   . rw[ead]; exact S.ap
 have few0:Few (n+1) (fs0++[f]) sent cn:=fw.keep (JF _);have twN:∀{G:Hp},Bg.Twin K G 2 .non .non:=Bg.Twin.of Bg.HasD.non;have okr:rg.Ok:=((S.pg.ok p hp).rh _ hm).1;have tup2:∀{H1 Hb2 H2:Hp} {tp:Kg} {xs:List V},H tp=none->H1 tp=⇑(.tup xs)->aB (rb A Hb H H1) Hb2->aB Hb2 H2->H2 tp=⇑(.tup xs):=λh1 h2 s1 s2=>s2 _ _ (s1 _ _ (by rw[eg (.inr h1)]; exact h2));cases rg with
 | copy y a =>
   let#[v,vv,w1,w2]:=atom (v:=a) (by simp [RH.parts,RH.gx,RH.as,RG.gx,RG.as]);have hy:=jY fg hm (y:=y) (by simp [RH.parts,RH.gx,RH.as,RG.gx,RG.as]);show#[v,w2,λr H1 hw s st1 so1=>hQ .non _ H1 (wa1 H1 s) (sm0 H1) #[r,by rw[m2]; exact hw,y,.int v,by show(av f.kvs a).map _=_; rw[w1]; rfl,λHb2 H2 s2 h2=>same (al.put hy vv) (.inl hw) st1 (soO so1) few0 s2 h2 twN]]
 | op y s_ a b =>
   let#[i,vi,a1,a2]:=atom (v:=a) (by simp [RH.parts,RH.gx,RH.as,RG.gx,RG.as]);let#[j,vj,b1,b2]:=atom (v:=b) (by simp [RH.parts,RH.gx,RH.as,RG.gx,RG.as]);have hy:=jY fg hm (y:=y) (by simp [RH.parts,RH.gx,RH.as,RG.gx,RG.as]);have vv:c6 (K21.valOf s_ i j):=K21.val_bound s_ vi.1 vj.1 vi.2 vj.2;show#[i,j,a2,b2,vi,vj,(S.pg.ok p hp).sg _ hm y s_ a b rfl,λr H1 hw s st1 so1=>hQ .non _ H1 (wa1 H1 s) (sm0 H1) #[r,by rw[m2]; exact hw,y,_,GB a1 b1 #[vi.1,vj.1,vi.2,vj.2],λHb2 H2 s2 h2=>same (al.put hy vv) (.inl hw) st1 (soO so1) few0 s2 h2 twN]]
 | get y a g =>
   let#[i,vi,w1,w2]:=atom (v:=a) (by simp [RH.parts,RH.gx,RH.as,RG.gx,RG.as]);have hy:=jY fg hm (y:=y) (by simp [RH.parts,RH.gx,RH.as,RG.gx,RG.as]);let#[z,hz,vz]:=nL fw.v i g;have hz':(aZ cn.kv (Wk.fk i g)).getD (.int 0)=.int z:=hz;have al2:=al.put hy vz;let#[a',_,_,b2]:=al2.av (fg.atom hm (v:=a) (by simp [RH.parts,RH.gx,RH.as,RG.gx,RG.as]));show#[i,a',w2,by rw[hz']; exact b2,λla2 r H1 hla hw s st1 so1=>?_];rw[hz'] at st1;exact hQ .non _ H1 (wa1 H1 s) (sm0 H1) #[r,by rw[m2]; exact hw,y,.int z,by dsimp only[RG.gives]; rw[w1]; exact HY (λv=>⇑(y,v)) hz,λHb2 H2 s2 h2=>same al2 (.inl hw) st1 (soN hla so1) few0 s2 h2 twN]
 | put a g b =>
   let#[i,vi,a1,a2]:=atom (v:=a) (by simp [RH.parts,RH.gx,RH.as,RG.gx,RG.as]);let#[j,vj,b1,b2]:=atom (v:=b) (by simp [RH.parts,RH.gx,RH.as,RG.gx,RG.as]);have hc:=fw.c;show#[i,j,a2,b2,λla2 tp r H1 hla htp hw s st1 so1 et=>hQ ↥tp _ H1 (wa1 H1 s) (sm0 H1) #[r,by rw[m2]; exact hw,i,.int j,a1,b1,∅,λHb2 H2 tp2 s2 h2 et2=>same (k1:=f.kvs) (cn2:=#[aQ cn.kv (Wk.fk i g) (.int j),cn.rc]) al (.inl hw) st1 (soN hla so1) #[few0.f,few0.s,by have:=dN cn.kv (Wk.fk i g) (V.int j); show(aQ cn.kv (Wk.fk i g) (V.int j)).length<=n+1; lia,few0.r,λk u hu=>by
     have hu:aZ (aQ cn.kv (Wk.fk i g) (V.int j)) k=⇑u:=hu;rw[dj] at hu;split at hu
     . cases hu; show#[j,rfl,vj]
     . exact fw.v k u hu,few0.i] s2 h2 (nu (tup2 htp et s2 h2.b) (h2.b _ _ et2) (.cons (.str 0x7) (.cons .int (.cons (.str (okr.fl.2 a g b rfl)) (.cons .int .nil)))))]]
 | new y =>
   have hy:=jY fg hm (y:=y) (by simp [RH.parts,RH.gx,RH.as,RG.gx,RG.as]);have hr:=fw.r;have vv:c6 (cn.rc+1):=#[∅,by show cn.rc+1<281474976710656; lia]
   exact λtp r H1 htp hw s st1 so1 et=>hQ ↥tp _ H1 (wa1 H1 s) (sm0 H1) #[r,by rw[m2]; exact hw,λHb2 H2 tp2 s2 h2 et2=>same (cn2:=#[cn.kv,cn.rc+1]) (al.put hy vv) (.inl hw) st1 (soO so1) #[few0.f,few0.s,few0.c,#[vv.1,by show cn.rc+1<=((n+1:Nat):Int); lia],fw.v,few0.i] s2 h2 (nu (tup2 htp et s2 h2.b) (h2.b _ _ et2) (.cons (.str 0x7) (.cons .int .nil)))]
 | out a =>
   let#[i,vi,a1,a2]:=atom (v:=a) (by simp [RH.parts,RH.gx,RH.as,RG.gx,RG.as]);show#[i,a2,λtp r H1 htp hw s st1 so1 et=>hQ ↥tp _ H1 (wa1 H1 s) (sm0 H1) #[r,by rw[m2]; exact hw,.int i,a1,λHb2 H2 tp2 s2 h2 et2=>same (k1:=f.kvs) (se2:=sent++[.int i]) al (.inl hw) st1 (soO so1) #[few0.f,by have:=fw.s; rw[Gv]; show sent.length+1<=n+1; lia,few0.c,few0.r,fw.v,λu hu=>by
     rcases HW.mp hu with h|h
     . exact fw.i u h
     . rw[HG.mp h]; show#[i,rfl]] s2 h2 (nu (tup2 htp et s2 h2.b) (h2.b _ _ et2) (.cons (.str 0x7) (.cons .int .nil)))]]
 | ifs a =>
   let#[i,vi,a1,a2]:=atom (v:=a) (by simp [RH.parts,RH.gx,RH.as,RG.gx,RG.as]);show#[i,a2,λr H1 hw s st1 so1=>hQ .non _ H1 (wa1 H1 s) (sm0 H1) #[i,r,a1,by rw[m2]; exact hw,λHb2 H2 s2 h2=>same (k1:=f.kvs) al (by split at hw; exact .inl hw; exact .inr hw) st1 (soO so1) few0 s2 h2 twN]]
 | whl a =>
   let#[i,vi,a1,a2]:=atom (v:=a) (by simp [RH.parts,RH.gx,RH.as,RG.gx,RG.as]);show#[i,a2,λr H1 hw s st1 so1=>hQ .non _ H1 (wa1 H1 s) (sm0 H1) #[i,r,a1,by rw[m2]; exact hw,λHb2 H2 s2 h2=>same (k1:=f.kvs) al (by split at hw; exact .inl hw; exact .inr hw) st1 (soO so1) few0 s2 h2 twN]]
 | call y g q as =>
   let#[p2,hp2,hnm,hl2]:=S.pg.ci p hp _ hm y g q as rfl;let#[vals,e1,e2,e3]:=qi al (as:=as) (λa ha=>fg.atom hm (by simp [RH.parts,RH.gx,RH.as,RG.gx,RG.as,ha]));obtain⟨r,hr⟩:∃r,x.F.rs[x.at_]?=⇑r:=#[_,HN (by rw[fg.len]; exact(Gq.mp hrg).1)]
   have hq:=fg.row _ _ _ hr hrg;have f2:=S.pg.fh hp2;have h10:=(okr.cl y g q as rfl).2;show#[vals,cf p2,p2.rhs,e1,h10,λi a v ha hv=>(e3 i a v ha hv).2,e2,f2,hnm,by rw[<- e1,hl2]; rfl,HX.mpr #[p2,hp2,rfl],λa ha=>?_,λH1 x' s hF' hat hal hl hd st1 so1=>hQ .non _ H1 (wa1 H1 s) (sm0 H1) #[cf p2,vals,HX.mpr #[p2,hp2,rfl],hnm,(sm0 H1)<*(hq.ar _ _ _ _ rfl),e1,λi a v ha hv=>(e3 i a v ha hv).1,∅,by have:=fw.f; rw[Gv,Hr] at this; lia,Hf f2.nl #[],Hf f2.pl #[],λHb2 H2 f' s2 h2 n1 n2 n3=>?_]]
   . let#[p3,h3,rfl]:=HX.mp ha;show#[p3.nm,_,aN.of (S.pg.hp p3 h3),λz=>by rw[S.pg.one h3 hp2 (z\hnm.symm)]; rfl,λz=>?_];have e:=S.pg.hp p3 h3;have z:p3.a=p2.a:=z;rw[z,S.pg.hp p2 hp2] at e;have e':p2.nm=p3.nm:=by simp at e; exact e.1
     exact e'.symm\hnm
   have nA:∀{b},H b=none->b ∉ A:=λh z=>by let#[o,ho]:=hA _ z; rw[S.wa.b _ _ ho] at h; cases h
   have sub:∀b∈bO sk (ls0++[x]++[x']),b∈bO sk (ls0++[x])\/H b=none:=λb hb=>by
     rcases ye hb with h|rfl|rfl
     . exact .inl h
     . exact .inr hl
     . exact .inr hd
   let#[rg0,h0]:=f2.row0;refine go .non .non Hb2 H2 _ sent cn _ la li lf ans #[h2,S.fl,S.pg,(sm0 H1)\s2,(st1.rb λb hb=>(sub b hb).imp (A2 b) id)*>s2,(soO so1)*>s2,λb hb=>?_,#[λz=>?_,λz=>?_],(by simp [hlen]),fw.keep 0xA,?_] 0xA twN
   . unfold dL at hb;rcases HM.mp hb with rfl|hb
     . exact no _ A1.1
     rcases HM.mp hb with rfl|hb
     . exact no _ A1.2.1
     rcases HM.mp hb with rfl|hb
     . exact no _ A1.2.2
     rcases sub b hb with h|h
     . exact no _ (A2 b h)
     . exact(S.s0.trans S.wa.b).free h
   . rcases sub _ z with h|h
     . exact S.ap.s1 h
     . exact nA h A1.1
   . rcases sub _ z with h|h
     . exact S.ap.s2 h
     . exact nA h A1.2.2
   . exact nP (by simp [hlen]) (GJ hlen low #[m1,m2,al,p,hp,hF,#[_,hrg],λ_=>#[y,g,q,as,hrg]]) #[by rw[n1,hF'],by rw[n2,hat],by rw[hF',n3]; exact hal,p2,hp2,hF',by rw[hat]; show#[_,h0],λz=>z.elim]
 | back a =>
   let#[v,vv,w1,w2]:=atom (v:=a) (by simp [RH.parts,RH.gx,RH.as,RG.gx,RG.as]);show#[v,w2,λhz H1 s st1 so1=>?_,λls1 y hz=>?_]
   . subst hz;have hf0:fs0=[]:=IK hlen;subst hf0;exact hQ .non _ H1 (wa1 H1 s) (sm0 H1) #[.int v,w1,.inl #[rfl,λH2 h2=>fin _ H2 v h2 (sm0 H1) (st1.rb λb hb=>.inl (A2 b (by rw[HG.mp hb];exact HH))) (soO so1)]]
   . subst hz;obtain⟨fs1,g,rfl⟩:∃fs1 g,fs0=fs1++[g]:=by
       rcases IR fs0 with e|⟨fs1,g,e⟩
       . rw[e] at hlen; simp at hlen
       . rw[IS] at e; show#[fs1,g,e]
     have hlen1:fs1.length=ls1.length:=↑hlen
     let#[p1,p2,p4,q,hq,hqF,_,p8]:=low ls1.length g y (by rw[<- hlen1]; exact em _ _) (em _ _);let#[z,g',pa,as,hc]:=p8 trivial;have ly:=p4.l;have p6:Fh K H0 y.F q.rhs:=by rw[hqF]; exact S.pg.fh hq
     have p3:y.F∈ps.map cf:=by rw[hqF]; exact HX.mpr #[q,hq,rfl]
     obtain⟨rr,hr⟩:∃r,y.F.rs[y.at_]?=⇑r:=#[_,HN (by rw[p6.len]; exact(Gq.mp hc).1)]
     have hqr:=p6.row _ _ _ hr hc;have hzn:=jY p6 (He hc) (y:=z) (by simp [RH.parts,RH.gx,RH.as,RG.gx,RG.as]);show#[∅,q.rhs,z,g',pa,as,p6,hc,λr H1 hw s st1 so1=>hQ .non _ H1 (wa1 H1 s) (sm0 H1) #[.int v,w1,.inr #[fs1,g,ps.map cf,y.F,rr,_,z,r,rfl,S.fl.mono (sm0 H1),p3,p1.symm,by rw[p2]; exact hr,(sm0 H1)<*hqr.it,rfl,by rw[p2]; exact hw,∅,λH2 h2=>?_]]];have ea:bO sk (ls1++[{ y with kvs:=aQ y.kvs (Sum.inr z:aE) (.int v),at_:=r }])=bO sk (ls1++[y]):=jG (x:=y) (x':={ y with kvs:=aQ y.kvs (Sum.inr z:aE) (.int v),at_:=r }) rfl rfl;have sub:∀b∈bO sk (ls1++[{ y with kvs:=aQ y.kvs (Sum.inr z:aE) (.int v),at_:=r }]),b∈bO sk (ls1++[y]++[x]):=λb hb=>GN (by rw[<- ea]; exact hb);refine go .non .non _ H2 _ sent cn _ la li lf (.int v) #[h2,S.fl,S.pg,sm0 H1,st1.rb (λb hb=>.inl (A2 b (sub b hb))),soO so1,λb hb=>?_,#[λh=>S.ap.s1 (sub _ h),λh=>S.ap.s2 (sub _ h)],(by simp [hlen1]),fw.keep 0xA,nP hlen1 (rq hlen1 (λi f' x' h1 h2=>(low i f' x' h1 h2).weak λ_=>trivial)) #[p1,rfl,p4.put hzn vv,q,hq,hqF,p6.stop hc hw,λz=>z.elim]] 0xA twN;unfold dL at hb;rcases HM.mp hb with rfl|hb
     . exact no _ A1.1
     rcases HM.mp hb with rfl|hb
     . exact no _ A1.2.1
     rcases HM.mp hb with rfl|hb
     . exact no _ A1.2.2
     exact no _ (A2 b (sub b hb))
abbrev Bn (K:Kh) (t:Adr):Sp:=λvs H Q _=>∃(H0 Hb:Hp) (w:Wr) (fs:List Fm) (sent:List V) (cn:Cn) (ps:List Pf) (sk:Kg) (ls:List Lf) (st fd la sl:Kg) (li:Int) (lf:Str) (ans:V) (n:Nat) (pick:Int),vs=[↥w.a,↥sk,.int pick]/\Sta K t H0 Hb H w fs sent cn ps sk ls st fd la sl li lf ans n/\ls≠[]/\n<=100/\∀H',aB H H'->Q (.bl true) H'
def EN (h:K12.Atom v):Bg.HasD K H n v:=by
 rcases h with⟨s,rfl,hn⟩|⟨i,rfl⟩
 . exact .str hn.2
 . exact .int
def Bl {r:Kg} (h:RHAt K H r rh) (ok:rh.Ok):Bg.HasD K H 2 ↥r:=by
 have it:=h.it;cases rh with
 | els=>exact Bg.HasD.tup (n:=1) it (.cons (.str 0x7) .nil)
 | fin=>exact Bg.HasD.tup (n:=1) it (.cons (.str 0x7) .nil)
 | rg g =>
   have ok:g.Ok:=ok;have at_:∀{v} {n:Nat},v∈g.parts->Bg.HasD K H n v:=λhv=>EN (ok.at_ _ hv);cases g with
   | out a=>exact Bg.HasD.tup (n:=1) it (.cons (.str 0x7) (.cons (at_ (by simp [RG.parts,RG.gx,RG.as])) .nil))
   | copy x a=>exact Bg.HasD.tup (n:=1) it (.cons (.str 0x7) (.cons (at_ (by simp [RG.parts,RG.gx,RG.as])) (.cons (at_ (by simp [RG.parts,RG.gx,RG.as])) .nil)))
   | op x s a b=>exact Bg.HasD.tup (n:=1) it (.cons (.str 0x7) (.cons (at_ (by simp [RG.parts,RG.gx,RG.as])) (.cons (.str (ok.sg x s a b rfl)) (.cons (at_ (by simp [RG.parts,RG.gx,RG.as])) (.cons (at_ (by simp [RG.parts,RG.gx,RG.as])) .nil)))))
   | back a=>exact Bg.HasD.tup (n:=1) it (.cons (.str 0x7) (.cons (at_ (by simp [RG.parts,RG.gx,RG.as])) .nil))
   | new x=>exact Bg.HasD.tup (n:=1) it (.cons (.str 0x7) (.cons (at_ (by simp [RG.parts,RG.gx,RG.as])) .nil))
   | get x a f=>exact Bg.HasD.tup (n:=1) it (.cons (.str 0x7) (.cons (at_ (by simp [RG.parts,RG.gx,RG.as])) (.cons (at_ (by simp [RG.parts,RG.gx,RG.as])) (.cons (.str (ok.fl.1 x a f rfl)) .nil))))
   | put a f b=>exact Bg.HasD.tup (n:=1) it (.cons (.str 0x7) (.cons (at_ (by simp [RG.parts,RG.gx,RG.as])) (.cons (.str (ok.fl.2 a f b rfl)) (.cons (at_ (by simp [RG.parts,RG.gx,RG.as])) .nil))))
   | call x g p as=>exact Bg.HasD.tup (n:=1) it (.cons (.str 0x7) (.cons (at_ (by simp [RG.parts,RG.gx,RG.as])) (.cons (.str (ok.cl x g p as rfl).1) (.cons (Bg.HasD.tup (n:=0) (h.ar x g p as rfl) (Bg.HasA.of λv hv=>at_ (by simp [RG.parts,RG.gx,RG.as,hv]))) .nil))))
   | ifs a=>exact Bg.HasD.tup (n:=1) it (.cons (.str 0x7) (.cons (at_ (by simp [RG.parts,RG.gx,RG.as])) .nil))
   | whl a=>exact Bg.HasD.tup (n:=1) it (.cons (.str 0x7) (.cons (at_ (by simp [RG.parts,RG.gx,RG.as])) .nil))
def Ao {f:Pf} (a:PfAt K H f) (o:PfOk f):Bg.HasD K H 4 ↥f.a:=by
 refine Bg.HasD.tup (n:=3) a.it (.cons (.str o.nm) (.cons .bl (.cons ((Bg.HasD.tup (n:=0) a.pr (Bg.HasA.of λv hv=>?_)).up #[]) (.cons (Bg.HasD.tup (n:=2) a.rt (Bg.HasA.of λv hv=>?_)) .nil))))
 . let#[s,hs,rfl]:=HX.mp hv;exact .str (o.ps s hs).2
 . let#[r,hr,rfl]:=HX.mp hv;let#[i,hi]:=Hy hr;have hlt:i<f.rhs.length:=by rw[<- a.rw_.len]; exact(Gq.mp hi).1
   have e:=HN hlt;exact Bl (a.rw_.at_ i r _ hi e) (o.rh _ (He e)).1
def E9 (sc:List Int):∃cs:List Int,cR (sc.map V.int) (some 4) (some 31)=cs.map V.int/\cs.length<=27:=by
 have e:HT.sIx (sc.map V.int).length 0 (some 4)=min 4 (sc.map V.int).length/\HT.sIx (sc.map V.int).length (sc.map V.int).length (some 31)=min 31 (sc.map V.int).length:=#[HT.sIx_nat ..,HT.sIx_nat ..]
 show#[(sc.drop (min 4 (sc.map V.int).length)).take (min 31 (sc.map V.int).length - min 4 (sc.map V.int).length),?_,?_]
 . unfold cR;rw[e.1,e.2,KF,List.map_drop]
 . rw[Hl]
   lia
def Fp {s:Str} {ns:List Nat} (h:⇑(HO.tup (V.str s::xs))=⇑(.tup (K13.natsV ns))):False:=by
 cases ns with
 | nil=>cases h
 | cons n ns=>cases h
def C2 {u:HO}(h:a≠b):upd (upd H a o) b u=upd (upd H b u) a o:=by
 funext c;by_cases z:c=b
 . subst z; rw[aI,aJ h.symm,aI]
 . rw[aJ z];by_cases y:c=a
   . subst y; rw[aI,aI]
   . rw[aJ y,aJ y,aJ z]
abbrev sp_law (K:Kh):Sp:=λvs H Q _=>∃(a:Kg) (ns:List Int),vs=[↥a]/\aG K H a (ns.map V.int)/\ns.length<=63/\∀H',Q (.bl true) H'
end
end K25
local macro_rules|`($a>=>$b)=>`(L2.aD $a $b rfl)|`($f<$>$a<*>$b)=>`(@L2.aS _ _ _ _ _ _ _ _ $f $a $b)
local macro_rules|`(~~~$a)=>`(@L2.aO _ _ _ (@L2.aX _ _ _ _ $a))
namespace K25
open PySem L2 K12
section
variable {P:Program} {w:World} {K:Kh} {mg:Str->Kd Ke} {base:Heap} {t:Adr}
def FX:FnScope ["names"] ["names"] (ac mO):=by walk_at "s"
def rY (T:Txt K mg t):FnOk P w K mg base CX0 1 t.vg t.xH ["names"] (K12.sp_each_once K):=by
 refine T.each_once.F.ok FX (λvs H Q E h=>?_) (λcdv A outer s H vs Q E hr h=>?_)
 . let#[_,_,rfl,_]:=h;rfl
 . let#[p0,ss,rfl,hS,hl,q]:=h;show#[_,(aK (@aX _ _ _ _ (cc (zK rfl) 0x1 T.b_list fT ((cc (uI rfl) 0x1 T.b_dict tG ((j4 (N':=["name"]) (js:=[none]) (by kernel_rfl) rfl (di (pv 0)) gH (λ_ _ _ _=>(au (i:=0) (show(["name"]:List Str).Nodup by decide +kernel) rfl 0x3 (.inr rfl))) (λ_ _ _ _=>gS) (λ_ _ _ _=>(bQ (pv 0>=>eP>=>aH))))>=>aH))>=>aH))) aj),?_];show#[5,p0,rfl,#[_,hS],λp hp=>(let Jv1:Nat->List V->Hp->Prop:=λi acc H2=>i<=ss.length/\aB H H2/\H2 p=⇑(.lst acc)/\∃ps:List Kg,acc=ps.map V.ref/\Paired (λa (kv:aE×V)=>aN K H2 a [kV kv.1,kv.2]) ps (ca (ss.take i)); oq (xs:=ss.map V.str) (by rw[Go]; lia) Jv1 #[Hj _,aB.new hp,aI,[],rfl,.nil] ?_ ?_ ?_)]
   . rintro i acc H2 hi ⟨hi',s2,h2,ps,rfl,hps⟩;show#[h2,?_,s2.seq hS];have:=Paired.length hps;rw[Go,this];unfold ca;rw[Go,Hl]
     lia
   . rintro i x acc H2 hx ⟨hi',s2,h2,ps,rfl,hps⟩;have hi:i<ss.length:=by have:=(Gq.mp hx).1;rw[Go] at this;exact this
     rw[HV] at hx;have hx:V.str ss[i]=x:=by simpa [hi] using hx
     subst hx;show#[5,(by show 2<=sizeLine; decide),λa ha=>?_];have hap:a≠p:=λz=>by rw[z,h2] at ha; cases ha
     have e:(upd H2 a (.tup [V.str ss[i],V.bl true])) p=⇑(.lst (ps.map V.ref)):=by rw[aJ hap.symm]; exact h2
     show#[e,hi,?_,aI,ps++[a],by rw[Gy]; rfl,?_]
     . exact(s2\(aB.new ha)).upd hp
     . have e2:ca (ss.take (i+1))=ca (ss.take i)++[(Sum.inr ss[i],V.bl true)]:=by unfold ca;rw[Hz,Gy];simp [hi]
       rw[e2];refine Paired.snoc (Paired.mapP hps λb kv z=>sqT_lst ((aB.new ha)<*z) e) ?_;exact aN.of (by rw[aJ hap]; exact aI)
   . rintro acc H2 ⟨hi',s2,h2,ps,rfl,hps⟩;have e0:ss.take (ss.map V.str).length=ss:=by rw[Go]; exact IP
     rw[e0] at hps;show#[p,ps,ca ss,rfl,aG.of h2,hps,by unfold ca; rw[Go]; lia,λd hd=>?_];rw[ER];show#[d,ca (onceL ss),rfl,aI,λl hl'=>?_];rw[Bb];exact q l _ ((s2\(aB.new hd)).trans (aB.new hl')) (s2.free ((aB.new hd).free hl')) aI
def Eu:FnScope ["row"] ["row"] (ac mW):=by walk_at "s"
def Fz (T:Txt K mg t):FnOk P w K mg base CX0 1 t.vk t.xJ ["row"] (K12.sp_gives K):=by
 refine T.gives.F.ok Eu (λvs H Q E h=>?_) (λcdv A outer s H vs Q E hr h=>?_)
 . let#[_,_,_,_,rfl,_]:=h;rfl
 . let#[r,xs,g,as,rfl,hr,hrow,q]:=h;show#[_,(aK (@aX _ _ _ _ (@iW _ _ _ _ _ _ _ _ (bL eS (aM ak (pv 0) aF 0x0) (sN T.Gj) (by with_unfolding_all rfl)) (aM ak (pv 0) aF 0x0) du)) aj),?_];let#[kd,h0,hc]:=DB hrow;show#[5,r,xs,19,hr,h0,t.pJ,giving.map V.str,rfl,.inr (T.Gm H),rfl,Cs,5,?_];rcases hc with⟨x,rfl,e,h1⟩|⟨rfl,e⟩
   . exact ao e #[5,r,xs,19,hr,h1,q]
   . exact ai (En e) q
def Gg:FnScope ["row"] ["row"] (ac kx):=by walk_at "s"
def Ae (T:Txt K mg t):FnOk P w K mg base CX0 1 t.vd t.xF ["row"] (K12.sp_atoms_of K):=by
 refine T.atoms_of.F.ok Gg (λvs H Q E h=>?_) (λcdv A outer s H vs Q E hr h=>?_)
 . let#[_,_,_,_,rfl,_]:=h;rfl
 . let#[r,xs,g,as,rfl,hr,hrow,hl,q]:=h;show#[_,(aK (ah (bL b7 (aM ak (pv 0) aF 0x0) aT (aY _)) (~~~(cc gf 0x1 T.b_list fT ((aM ak (pv 0) aF 0x0)>=>aH))) aj) (~~~(j4 (N':=["place","row"]) (js:=[none,some 0]) (by kernel_rfl) rfl (iu (aM CA (sN T.Gi) (aM ak (pv 0) aF 0x0) 0x0)) gH (λ_ _ _ _=>(au (i:=0) (show(["place","row"]:List Str).Nodup by decide +kernel) rfl 0x3 (.inr rfl))) (λ_ _ _ _=>gS) (λ_ _ _ _=>(aM (show aR _ (fL K) from ak) (pv 1) (pv 0) 0x0))))),?_];let#[kd,h0,hc]:=Cq hrow;show#[5,r,xs,19,hr,h0,13,?_];rcases hc with⟨rfl,p,h3,hp⟩|⟨hne,pl,hk,hpl,hat⟩
   . exact ao (HJ rfl) #[5,r,xs,19,hr,h3,p,as,rfl,.inr hp,λl hl=>q l _ (aB.new hl) hl aI]
   . refine ai (λh=>hne (V.str.inj (bT h))) ?_;show#[5,r,xs,19,hr,h0,t.pK,tabl,19,T.Gn,hk,λa ha=>?_];show#[a,rfl,#[_,ha],λp hp=>(let Jv1:Nat->List V->Hp->Prop:=λi acc H2=>acc=as.take i/\H2=upd H p (.lst acc); qv (xs:=pl.map V.int) (by rw[Go]; lia) Jv1 #[7] ?_ ?_ ?_)]
     . rintro i acc H2 hi ⟨rfl,rfl⟩;show#[aI,by rw[Hl]; lia,(aB.new hp)<*ha]
     . rintro i x acc H2 hx ⟨rfl,rfl⟩;have hi:i<as.length:=by
         have:=(Gq.mp hx).1;rw[Go] at this
         lia
       let#[p1,hp1,hp2]:=hat i as[i] (by simp [hi]);rw[HV,hp1] at hx;have hx:V.int p1=x:=↑hx
       subst hx;show#[21,r,xs,19,(aB.new hp)<*hr,hp2,aI,?_,jf];rw[Hz];simp [hi]
     . rintro acc H2 ⟨rfl,rfl⟩;have e:(as.take (pl.map V.int).length)=as:=by rw[Go,hpl]; exact IP
       exact q p _ (aB.new hp) hp (by rw[aI,e])
def CP:FnScope ["row"] ["row"] (ac kQ):=by walk_at "s"
def A8 (T:Txt K mg t):FnOk P w K mg base CX0 2 t.wW t.xo ["row"] (K12.sp_reads K):=by
 have Qf:=rY (P:=P) (w:=w) (base:=base) T;have Qw:=Ae (P:=P) (w:=w) (base:=base) T;refine T.reads.F.ok CP (λvs H Q E h=>?_) (λcdv A outer s H vs Q E hr h=>?_)
 . let#[_,_,_,_,rfl,_]:=h;rfl
 . let#[r,xs,g,as,rfl,hrw,hrow,hl,hat,q]:=h;show#[_,(aK (@aX _ _ _ _ (b8 T.each_once Qf (hr*>#[]) ((j4 (N':=["atom"]) (js:=[none]) (by kernel_rfl) rfl (di (b8 T.atoms_of Qw (hr*>#[]) (pv 0>=>aH))) gH (λ_ _ _ _=>(au (i:=0) (show(["atom"]:List Str).Nodup by decide +kernel) rfl 0x3 (.inr rfl))) (λ_ _ _ _=>(BL (nI (bY (show bh _ (.builtin "isinstance") (Bx K) from gF) 0x1 T.b_isinstance gZ (pv 0>=>(gM (v:=V.ty "str") rfl T.b_str ja rfl)>=>aH))))) (λ_ _ _ _=>(pv 0)))>=>aH))) aj),?_];show#[5,r,xs,g,as,rfl,hrw,hrow,hl,λl0 H1 s1 n1 e1=>?_];show#[l0,rfl,#[_,aG.of e1],λp hp=>(let Jv1:Nat->List V->Hp->Prop:=λi acc H2=>acc=(strsOf (as.take i)).map V.str/\H2=upd H1 p (.lst acc); oq (xs:=as) ∅ Jv1 #[7] ?_ ?_ ?_)]
   . rintro i acc H2 hi ⟨rfl,rfl⟩;show#[aI,?_,(aB.new hp).seq (aG.of e1)];have:=strsOf_len (as.take i);rw[Go];rw[Hl] at this
     lia
   . rintro i x acc H2 hx ⟨rfl,rfl⟩;have hi:i<as.length:=(Gq.mp hx).1;have e2:strsOf (as.take (i+1))=strsOf (as.take i)++strsOf [x]:=by rw[Hz,hx,strsOf_append];rfl
     rcases hat x (He hx) with⟨s,rfl,hn⟩|⟨z,rfl⟩
     . show#[40,true,rfl,.str _,13,?_];show#[5,aI,?_,jf];rw[e2,Gy];rfl
     . show#[40,false,rfl,.int _,13,?_];show#[?_,?_]
       . rw[e2,FU,Ig]
       . rfl
   . rintro acc H2 ⟨rfl,rfl⟩;rw[IP];have hle:=strsOf_len as;show#[p,strsOf as,rfl,aG.of aI,∅,λl H3 s3 n3 e3=>q l H3 ((s1\(aB.new hp)).trans s3) (s1.free ((aB.new hp).free n3)) e3]
def mG:FnScope ["function","found","row","given"] ["function"] (ac iZ):=by walk_at "s"
def yy (T:Txt K mg t):FnOk P w K mg base CX0 3 t.wV t.xn ["function"] (K12.sp_names_of K):=by
 have Qf:=rY (P:=P) (w:=w) (base:=base) T;have Qx:=Fz (P:=P) (w:=w) (base:=base) T;have Qy:=A8 (P:=P) (w:=w) (base:=base) T;refine T.names_of.F.ok mG (λvs H Q E h=>?_) (λcdv A outer s H vs Q E hr h=>?_)
 . let#[_,_,_,rfl,_]:=h;rfl
 . skip
   refine lx ?_;intro XX;refine(let W2:TS:=_; have hW2:aV XX ((aU iZ).drop 2) W2:=(~~~(b8 T.each_once Qf (hr*>#[]) (pv 1>=>aH))); ?_);refine(let W1:TS:=_; have hW1:aV XX ((aU iZ).drop 1) W1:=(aK (cG PassesOwn.never rfl (iu (aM ak (pv 0) aF 0x0)) (au (i:=2) mG.nd rfl 0x3) (aK (@aa _ _ 3 _ _ _ _ mG.nd rfl 0x3 (b8 T.gives Qx (hr*>#[]) (pv 2>=>aH)) 0x1 0x5) (aK (ah (oY (DQ (pv 3))) (@aO _ _ _ (@bK _ _ _ _ (br HK HP HQ eX (pv 1) (pv 3>=>aH)) 0x1)) aj) (@aO _ _ _ (@bK _ _ _ _ (br HK JO JP oO (pv 1) ((b8 T.reads Qy (hr*>#[]) (pv 2>=>aH))>=>aH)) 0x1))))) hW2); ?_);let#[f,ps,ds,rfl,hf,q]:=h;show#[_,(aK (@aa _ _ 1 _ _ _ _ mG.nd rfl 0x3 (cc gf 0x1 T.b_list fT ((aM ak (pv 0) aF 0x0)>=>aH)) 0x1 0x5) hW1),?_];let#[n,b,pp,rr,hF,hP,hR]:=hf.fn;show#[5,f,35,hF,rfl,pp,5,.inr hP,λl hl=>?_];show#[5,f,35,(aB.new hl)<*hF,rfl,?_];show#[rr,rfl,#[_,(aB.new hl)<*hR],(let Jv1:Nat->St->Hp->Prop:=λi σ H2=>aB H H2/\∃v1 v2 fs,σ=[⇑↥f,⇑↥l,v1,v2]/\H2 l=⇑(.lst (List.map V.str fs))/\onceL fs=onceL (ps++(ds.take i).flatMap rowStrs)/\fs.length<=100+11 * i; nH (xs:=ds.map λd=>V.ref d.r) Jv1 #[aB.new hl,4,ps,rfl,aI,by simp,by have:=hf.pl; lia] ?_ ?_ ?_)]
   . rintro i σ H2 hi ⟨s2,_⟩;exact s2<*hR
   . rintro i x σ H2 hx ⟨s2,v1,v2,fs,rfl,h2,ho,hlen⟩;have hi:i<ds.length:=by have:=(Gq.mp hx).1;rw[Go] at this;exact this
     rw[HV] at hx;have hx:V.ref ds[i].r=x:=by simpa [hi] using hx
     subst hx;have hd:=hf.rows ds[i] (J5 hi);have hds:=hf.dl;have ef:(ds.take (i+1)).flatMap rowStrs=(ds.take i).flatMap rowStrs++rowStrs ds[i]:=by rw[Hz,List.flatMap_append];simp [hi]
     have hol:=onceL_len (strsOf ds[i].as);have hsl:=strsOf_len ds[i].as;have hal:=hd.len;let#[xs,hr1,hr2]:=(hd*>s2).row;show#[5,ds[i].r,xs,9,hr1,hr2,?_];show#[21,?_];cases hg:ds[i].gx with
     | none =>
       refine gB #[5,.inl #[6,aG.of h2],5,ds[i].r,xs,9,hr1,hr2,hd.len,hd.ats,λl4 H4 s4 n4 e4=>?_];show#[l,l4,19,s4 _ _ h2,e4,mL (by rw[Go,Go]; lia),?_];show#[(s2\s4).upd hl,4,fs++[]++onceL (strsOf ds[i].as),rfl,(by rw[aI,Ig,Gy]),?_,(by simp only[Gv,Ih]; lia)];rw[sW ho,ef,Iv];unfold rowStrs;rw[hg];rfl
     | some x =>
       refine gw #[5,.inl #[6,aG.of h2],5,l,19,h2,eU (by rw[Go]; lia),?_];have s3:aB H (upd H2 l (.lst (List.map V.str fs++[V.str x]))):=s2.upd hl;let#[xs',hr1',hr2']:=(hd*>s3).row;show#[5,.inl #[6,aG.of aI],5,ds[i].r,xs',9,hr1',hr2',hd.len,hd.ats,λl4 H4 s4 n4 e4=>?_];show#[l,l4,19,s4 _ _ aI,e4,mL (by simp only[Gv,Go,Hs,Ih]; lia),?_];show#[(s3\s4).upd hl,4,fs++[x]++onceL (strsOf ds[i].as),rfl,(by rw[aI,Gy,Gy]; rfl),?_,(by simp only[Gv,Hs,Ih]; lia)];rw[sW ho,ef,Iv];unfold rowStrs;rw[hg];rfl
   . rintro σ H2 ⟨s2,v1,v2,fs,rfl,h2,ho,hlen⟩;rw[Go,IP] at ho;rw[Go] at hlen;have hds:=hf.dl;show#[5,l,fs,rfl,aG.of h2,∅,λl3 H3 s3 n3 e3=>q l3 H3 (s2\s3) (s2.free n3) ?_];rw[e3,ho];rfl
end
end K25
namespace K25
open PySem L2 K13
section
variable {P:Program} {w:World} {K:Kh} {mg:Str->Kd Ke} {base:Heap} {t:Adr}
def jh:FnScope ["rows","opened","begins","k","row"] ["rows"] (ac jU):=by walk_at "s"
def D6 (T:Txt K mg t):FnOk P w K mg base CX0 1 t.ve t.xG ["rows"] (K13.sp_begins_of K):=by
 refine T.begins_of.F.ok jh (λvs H Q E h=>?_) (λcdv A outer s H vs Q E hr h=>?_)
 . let#[_,_,rfl,_]:=h;rfl
 . skip
   refine lx ?_;intro XX;refine(let W2:TS:=_; have hW2:aV XX ((aU jU).drop 2) W2:=(aK (cG PassesOwn.never rfl (uN rfl T.b_enumerate (pv 0>=>aH)) (dR rfl (bV (au (i:=3) jh.nd rfl 0x3) (bV (au (i:=4) jh.nd rfl 0x3) dE))) (@aO _ _ _ (ah (bL eS (aM ak (pv 4) aF 0x0) (bQ (aT>=>aT>=>aH)) (by with_unfolding_all rfl)) (@aO _ _ _ (@bK _ _ _ _ (br HK HP HQ eX (pv 1) (pv 3>=>aH)) 0x1)) (@aO _ _ _ (ah (bL b7 (aM ak (pv 4) aF 0x0) aT (aY _)) (@aO _ _ _ (cQ (bA hr.units) (pv 2) (pv 3) (aM dg (pv 1) (dG dD aF) 0x0) 0x1)) (@aO _ _ _ (ah (bL b7 (aM ak (pv 4) aF 0x0) aT (aY _)) (@aO _ _ _ (cQ (bA hr.units) (pv 2) (pv 3) (i3 HK JC JD kh (pv 1)) 0x1)) aj))))))) (~~~(pv 2))); ?_);let#[a,ks,rfl,hR,w,hn,q]:=h;show#[_,(aK (@aa _ _ 1 _ _ _ _ jh.nd rfl 0x3 (bI aH) 0x1 0x5) (aK (@aa _ _ 2 _ _ _ _ jh.nd rfl 0x3 eV 0x1 0x5) hW2)),?_];show#[cM,λol hol=>λd hd=>?_];let#[rs,e1,e2,e3]:=hR.ex;have hdo:d≠ol:=λz=>by rw[z,aI] at hd; cases hd
   have s0:aB H (upd (upd H ol (.lst [])) d (.dK [])):=(aB.new hol)\(aB.new hd);have hd0:H d=none:=(aB.new hol).free hd;show#[5,a,rfl,#[_,s0<*e1],(let Jv1:Nat->St->Hp->Prop:=λi σ H2=>i<=ks.length/\aB H H2/\∃v3 v4,σ=[⇑↥a,⇑↥ol,⇑↥d,v3,v4]/\H2 ol=⇑(.lst (dq ks i))/\H2 d=⇑(.dK (bg ks i)); qf (xs:=rs.map V.ref) Jv1 #[Hj _,s0,9,by rw[aJ hdo.symm]; exact aI,aI] ?_ ?_ ?_)]
   . rintro i σ H2 hi ⟨_,s2,_⟩;exact s2<*e1
   . rintro i x σ H2 b hx ⟨hi',s2,v3,v4,rfl,ho,hg⟩ hb;have hi:i<rs.length:=by have:=(Gq.mp hx).1;rw[Go] at this;exact this
     rw[HV] at hx;have hx:V.ref rs[i]=x:=by simpa [hi] using hx
     subst hx;let#[rest,hrow]:=e3 i rs[i] (by simp [hi]);have s3:aB H (upd H2 b (.tup [.int i,.ref rs[i]])):=s2\(aB.new hb);have ho3:=aB.new (o:=.tup [.int i,.ref rs[i]]) hb _ _ ho;have hg3:=aB.new (o:=.tup [.int i,.ref rs[i]]) hb _ _ hg;have sl:=uH ks i;have bl:=nW ks i;show#[b,5,aN.of aI,403,?_];show#[5,rs[i],35,s3<*hrow,aP,bE,λtw htw=>#[tw,[V.str "if",V.str "while"],rfl,.inr (aN.of aI),29,?_]];have s4:=s3\(aB.new (o:=.tup [V.str "if",V.str "while"]) htw);have ho4:=aB.new (o:=.tup [V.str "if",V.str "while"]) htw _ _ ho3;have hg4:=aB.new (o:=.tup [V.str "if",V.str "while"]) htw _ _ hg3;by_cases hO:isO (kd ks i)=true
     . refine ao ((inO _)\hO) ?_;show#[5,.inl #[6,aG.of ho4],5,ol,19,ho4,eU ∅,?_];show#[∅,s4.upd hol,9,?_,?_]
       . rw[aI];have:stk ks (i+1)=i::stk ks i:=by rw[cr]; unfold push; rw[HI hO]
         unfold dq;rw[this,KH,Gy];rfl
       . rw[aJ hdo,pj (kO hO)];exact hg4
     refine ai (λz=>hO ((inO _).symm.trans z)) ?_;show#[5,rs[i],35,s4<*hrow,aP,13,?_];by_cases h1:kd ks i="else"
     . refine ao (HJ (HY V.str h1)) ?_;have hE:isE (kd ks i)=true:=by rw[h1]; decide +kernel
       obtain⟨t,r,ht⟩:∃t r,stk ks i=t::r:=by
         cases z:stk ks i with
         | nil=>exact absurd z (w.open_ i ∅ hE)
         | cons t r=>show#[t,r,rfl]
       let#[q1,q2,q3]:=qX ht;show#[21,ol,35,aG.of ho4,q1,21,d,5,bo.k (k:=Sum.inl (i:Int)) hg4 (eU ∅),?_];show#[∅,s4.upd hd0,9,?_,?_]
       . rw[aJ hdo.symm];have:stk ks (i+1)=stk ks i:=by rw[cr]; unfold push; rw[Gu hO,Gu (by rw[h1]; exact els_fin)]
         unfold dq;rw[this];exact ho4
       . rw[aI,mS #[hE,by rw[ht]; rfl]]
     refine ai (λz=>h1 (V.str.inj (bT z))) ?_;show#[5,rs[i],35,s4<*hrow,aP,13,?_];by_cases h2:kd ks i="end"
     . refine ao (HJ (HY V.str h2)) ?_;have hE:isE (kd ks i)=true:=by rw[h2]; decide +kernel
       obtain⟨t,r,ht⟩:∃t r,stk ks i=t::r:=by
         cases z:stk ks i with
         | nil=>exact absurd z (w.open_ i ∅ hE)
         | cons t r=>show#[t,r,rfl]
       let#[q1,q2,q3]:=qX ht;show#[5,.inl #[6,aG.of ho4],ol,19,ho4,q2,21,d,5,bo.k (k:=Sum.inl (i:Int)) (by rw[aJ hdo]; exact hg4) (eU ∅),?_];show#[∅,(s4.upd hol).upd hd0,9,?_,?_]
       . rw[aJ hdo.symm,aI,q3];have:stk ks (i+1)=r:=by rw[cr]; unfold push; rw[Gu hO,HI h2,ht]; rfl
         unfold dq;rw[this]
       . rw[aI,mS #[hE,by rw[ht]; rfl]]
     refine ai (λz=>h2 (V.str.inj (bT z))) ?_;show#[∅,s4,9,?_,?_]
     . have:stk ks (i+1)=stk ks i:=by rw[cr]; unfold push; rw[Gu hO,Gu h2]
       unfold dq;rw[this];exact ho4
     . rw[pj (isE_or h1 h2)];exact hg4
   . rintro σ H2 ⟨_,s2,v3,v4,rfl,ho,hg⟩;rw[Go,e2] at hg;show#[5,q d H2 s2 hd0 hg]
def gY:FnScope ["rows","begins","ends","k","begin","behind","follower","kind"] ["rows","begins"] (ac fm):=by walk_at "s"
def EW (T:Txt K mg t):FnOk P w K mg base CX0 1 t.vh t.xI ["rows","begins"] (K13.sp_firsts_behind K):=by
 refine T.firsts_behind.F.ok gY (λvs H Q E h=>?_) (λcdv A outer s H vs Q E hr h=>?_)
 . let#[_,_,_,rfl,_]:=h;rfl
 . skip
   refine lx ?_;intro XX;refine(let W4:TS:=_; have hW4:aV XX ((aU fm).drop 4) W4:=(~~~(pv 5)); ?_);refine(let W3_2:TS:=_; have hW3_2:aV XX ((sB ((aU fm).getD 3 0xB)).drop 2) W3_2:=(@aO _ _ _ (ah (bL b7 (pv 7) aT (aY _)) (@aO _ _ _ (dz (aM dg (pv 5) (cC (bA hr.units) (pv 2) (cC (bA hr.units) (pv 1) (pv 6) 0x0) 0x0) 0x0) (iB (pv 5) (pv 3) gz))) (@aO _ _ _ (ah (@PW.pt _ _ _ (ge (bL b7 (pv 7) aT (aY _)) (gj (bL b7 (aM ak (aM ak (pv 0) (cC (bA hr.units) (pv 1) (pv 6) 0x0) 0x0) aF 0x0) aT (aY _))))) (@aO _ _ _ (dz (cC (bA hr.units) (pv 1) (pv 6) 0x0) (iB (pv 5) (pv 3) gz))) (@aO _ _ _ (ah (bL b7 (pv 7) aT (aY _)) (@aO _ _ _ (dz (aM dg (pv 5) (pv 6) 0x0) (iB (pv 5) (pv 3) gz))) (@aO _ _ _ (dz (pv 6) (iB (pv 5) (pv 3) gz))))))))); ?_);refine(let W3_1:TS:=_; have hW3_1:aV XX ((sB ((aU fm).getD 3 0xB)).drop 1) W3_1:=(aK (@aa _ _ 7 _ _ _ _ gY.nd rfl 0x3 (aM ak (aM ak (pv 0) (pv 6) 0x0) aF 0x0) 0x1 0x5) hW3_2); ?_);refine(let W2:TS:=_; have hW2:aV XX ((aU fm).drop 2) W2:=(aK (@aa _ _ 5 _ _ _ _ gY.nd rfl 0x3 (ie<$>(bI (du>=>aH))<*>(bY gU 0x1 T.b_len cL (pv 0>=>aH))) 0x1 0x5) (aK (cG PassesOwn.never rfl (DV rfl T.b_range ((dS<$>(bY gU 0x1 T.b_len cL (pv 0>=>aH))<*>aF)>=>dG dD aF>=>dG dD aF>=>aH)) (au (i:=3) gY.nd rfl 0x3) (aK (@aa _ _ 6 _ _ _ _ gY.nd rfl 0x3 (cV<$>pv 3<*>aF) 0x1 0x5) hW3_1)) hW4)); ?_);let#[a,d,ks,rfl,hR,w,hn,hd,q]:=h;show#[_,(aK (@aa _ _ 2 _ _ _ _ gY.nd rfl 0x3 eV 0x1 0x5) (aK (cG PassesOwn.never rfl (tT (pv 1)) (dR rfl (bV (au (i:=3) gY.nd rfl 0x3) (bV (au (i:=4) gY.nd rfl 0x3) dE))) (@aO _ _ _ (cQ (bA hr.units) (pv 2) (pv 4) (pv 3) 0x1))) hW2)),?_];refine λed hed=>?_;have hde:d≠ed:=λz=>by rw[<- z,hd] at hed; cases hed
   show#[5,d,bg ks ks.length,rfl,.inl #[aB.new hed _ _ hd,λo=>?_]];have sF:aB (upd H d (.frz o (.dK (bg ks ks.length)))) (upd (upd H ed (.dK [])) d (.frz o (.dK (bg ks ks.length)))):=λb u h=>by
     by_cases hb:b=d
     . subst hb;rw[aI] at h ⊢;exact h
     . rw[aJ hb] at h ⊢;rw[aJ (λz=>by rw[z,hed] at h; cases h)];exact h
   have hF:(upd H d (.frz o (.dK (bg ks ks.length)))) d=⇑(.frz o (.dK (bg ks ks.length))):=aI;have hedF:(upd H d (.frz o (.dK (bg ks ks.length)))) ed=none:=by rw[aJ hde.symm]; exact hed
   have hRF:RowsAt K (upd H d (.frz o (.dK (bg ks ks.length)))) a ks:=hR.frz hd;have qF:∀l H',aB (upd H d (.frz o (.dK (bg ks ks.length)))) H'->(upd H d (.frz o (.dK (bg ks ks.length)))) l=none->rV H' l ks->Q ↥l H':=λl H' h1 h2 h3=>q l o H' h1 (by rw[aJ (λz=>by rw[z,hF] at h2; cases h2)] at h2; exact h2) h3;generalize upd H d (.frz o (.dK (bg ks ks.length)))=HF at sF hF hedF hRF qF;have bl:=nW ks ks.length;have pl:=mi ks ks.length;refine rW (λi σ H2=>i<=(bg ks ks.length).length/\aB HF H2/\∃v3 v4 eds,σ=[⇑↥a,⇑↥d,⇑↥ed,v3,v4,none,none,none]/\H2 ed=⇑(.dK eds)/\eds.length<=i/\∀b:Nat,aZ eds (Sum.inl (b:Int):aE)=(eJ ((bZ ks ks.length).take i) b).map λ(m:Nat)=>V.int (m:Int)) #[Hj _,sF,4,[],rfl,by rw[aJ hde.symm]; exact aI,Gw _,λb=>rfl] ?_ ?_ ?_
   . rintro i σ H2 hi ⟨_,s2,_⟩;exact s2 _ _ hF
   . rintro i kv σ H2 b hkv ⟨hi,s2,v3,v4,eds,rfl,he,hel,hv⟩ hb;let#[p,hp,rfl]:=pZ hkv;have hlt:=(Gq.mp hkv).1;have he3:=aB.new (o:=.tup [V.int (p.1:Int),V.int (p.2:Int)]) hb _ _ he;show#[b,5,aN.of aI,403,?_];show#[85,ed,5,bo.k (k:=Sum.inl (p.2:Int)) he3 (eU ∅),?_];show#[hlt,(s2\(aB.new hb)).upd hedF,17,aI,?_,λb'=>?_]
     . exact Hf (dN _ _ _) ∅
     . rw[dj,Hz,hp];show _=(eJ ((bZ ks ks.length).take i++[p]) b').map _;rw[qy,hv b'];by_cases h:p.2=b'
       . rw[HI h,HI (by rw[h])];rfl
       . rw[Gu h,Gu (λz=>h (by have:(b':Int)=(p.2:Int):=Sum.inl.inj z; lia))]
   . rintro σ H2 ⟨_,s2,v3,v4,eds,rfl,he,hel,hv⟩;have hv:∀b:Nat,aZ eds (Sum.inl (b:Int):aE)=(eJ (bZ ks ks.length) b).map λ(m:Nat)=>V.int (m:Int):=λb=>by rw[hv b];unfold bg fB;rw[Go,IP]
     let#[rs,r1,r2,r3]:=hRF.ex;have rl:(rs.map V.ref).length=ks.length:=by rw[Go,r2]
     show#[d6,λnl hnl=>#[5,a,5,.inr ((s2\(aB.new hnl))<*r1),nl,19,aI,∅,by rw[rl]; lia,by rw[rl]; exact mL (by simp; lia),λbl hbl=>?_]];have s3:=(s2\(aB.new (o:=.lst [V.non]) hnl)).trans (aB.new (o:=.lst (List.replicate (((rs.map V.ref).length:Int).toNat) [V.non]).flatten) hbl);have hbF:HF bl=none:=s2.free ((aB.new hnl).free hbl);have hbe:bl≠ed:=λz=>by have:=(aB.new hnl).free hbl;rw[z,he] at this;cases this
     have he3:=(aB.new (o:=.lst (List.replicate (((rs.map V.ref).length:Int).toNat) [V.non]).flatten) hbl) _ _ ((aB.new (o:=.lst [V.non]) hnl) _ _ he);show#[5,a,5,.inr (s3<*r1),309,(ks.length:Int) - 2,-1,by rw[rl],#[∅,∅,∅,∅],?_];have hnn:(((ks.length:Int) - 2) - -1).toNat=ks.length - 1:=by lia
     rw[hnn];refine(let Jv1:Nat->St->Hp->Prop:=λi σ H4=>aB HF H4/\∃v3 v4 v6 v7 bs,σ=[⇑↥a,⇑↥d,⇑↥ed,v3,v4,⇑↥bl,v6,v7]/\H4 ed=⇑(.dK eds)/\H4 bl=⇑(.lst bs)/\bs.length=ks.length/\∀k,k+1<ks.length->ks.length - 1 - i<=k->∃r:Nat,Beh ks k r/\bs[k]?=⇑(.int (r:Int)); zP Jv1 #[s3,65,he3,aI,by rw[rl]; exact DA _,λk h1 h2=>by lia] ?_ ?_)
     . rintro i σ H4 hi ⟨s4,v3,v4,v6,v7,bs,rfl,e4,b4,l4,hb4⟩;obtain⟨k,hk⟩:∃k:Nat,k+2+i=ks.length:=#[ks.length - 2 - i,∅]
       have ek:((ks.length:Int) - 2) - (i:Int)=(k:Int):=by lia
       rw[ek];have hR4:=hRF*>s4;have old:∀j,j+1<ks.length->k<j->∃r:Nat,Beh ks j r/\bs[j]?=⇑(.int (r:Int)):=λj h1 h2=>hb4 j h1 ∅;have fin:∀(r:Nat) (v3 v4 v6 v7:Kd V),Beh ks k r->aB HF (upd H4 bl (.lst (bs.set k (.int (r:Int)))))/\∃v3' v4' v6' v7' bs',([⇑↥a,⇑↥d,⇑↥ed,v3,v4,⇑↥bl,v6,v7]:St)=[⇑↥a,⇑↥d,⇑↥ed,v3',v4',⇑↥bl,v6',v7']/\(upd H4 bl (.lst (bs.set k (.int (r:Int))))) ed=⇑(.dK eds)/\(upd H4 bl (.lst (bs.set k (.int (r:Int))))) bl=⇑(.lst bs')/\bs'.length=ks.length/\∀j,j+1<ks.length->ks.length - 1 - (i+1)<=j->∃r:Nat,Beh ks j r/\bs'[j]?=⇑(.int (r:Int)):=λr v3 v4 v6 v7 hr=>by
         show#[s4.upd hbF,65,by rw[aJ hbe.symm]; exact e4,aI,by rw[Jt]; exact l4,λj h1 h2=>?_];by_cases hj:j=k
         . subst hj;show#[r,hr,by rw[Jb ∅]]
         . let#[r',q1,q2]:=old j h1 ∅;show#[r',q1,by rw[J4 (λz=>hj z.symm)]; exact q2]
       have hix:d9 bs.length (k:Int)=⇑k:=by unfold d9;rw[HI ∅,HI ∅,Hm]
       have at_bs:∀j r:Nat,bs[j]?=⇑(.int (r:Int))->bD bs (j:Int)=⇑(.int (r:Int)):=λj r h=>dO h;show#[83,?_];show fe 6 (V.int ((k:Int)+1)) _ _ _;rw[show((k:Int)+1)=((k+1:Nat):Int) by lia];show#[21,ixk hR4 ∅ ∅ ?_];show#[45,?_];have am:isE (kd ks (k+1))=true->∃b,(stk ks (k+1)).head?=⇑b:=λh=>by
         cases z:stk ks (k+1) with
         | nil=>exact absurd z (w.open_ (k+1) ∅ h)
         | cons b r=>show#[b,rfl]
       have fz:Rd H4 d (.dK (bg ks ks.length)):=.inr #[o,s4 _ _ hF];by_cases h1:kd ks (k+1)="else"
       . refine ao (HJ (HY V.str h1)) ?_;have hE:isE (kd ks (k+1))=true:=by rw[h1]; decide +kernel
         let#[b,hb]:=am hE;have hbo:=hit_lt (#[hE,hb]:Hit ks b (k+1));let#[e,hEn]:=ends_ex w ∅ hbo.2;have h5:k+1<=e:=hit_le hEn #[hE,hb];have h6:e+1<ks.length:=by
           rcases Hk (e+1) ks.length with z|z
           . exact z
           . have:=w.last e (by have:=hEn.2.1; lia);rw[hEn.2.2.1] at this;exact absurd this.symm back_ne.2
         let#[r,hr1,hr2]:=old e h6 ∅;have g1:cX H4 d (.int ((k+1:Nat):Int)) ⇑(.int (b:Int)):=.inl #[_,Sum.inl ((k+1:Nat):Int),fz,rfl,(qx ks.length ∅ #[hE,hb]).symm];have g2:cX H4 ed (.int (b:Int)) ⇑(.int (e:Int)):=.inl #[_,Sum.inl (b:Int),.inl e4,rfl,by rw[hv b,Db hEn]; rfl];show#[341,d,5,g1,ed,5,g2,bl,35,aG.of b4,at_bs e r hr2,21,bl,35,b4,hix,fin r _ _ _ _ (.els h1 hb hEn hr1)]
       refine ai (λz=>h1 (V.str.inj (bT z))) ?_;show#[45,?_];by_cases h2:kd ks (k+1)="end"
       . have hE:isE (kd ks (k+1))=true:=by rw[h2]; decide +kernel
         let#[b,hb]:=am hE;have hbo:=hit_lt (#[hE,hb]:Hit ks b (k+1));have g1:cX H4 d (.int ((k+1:Nat):Int)) ⇑(.int (b:Int)):=.inl #[_,Sum.inl ((k+1:Nat):Int),fz,rfl,(qx ks.length ∅ #[hE,hb]).symm];refine ao (HJ (HY V.str h2)) ?_;show#[85,d,5,g1,ixk hR4 ∅ ∅ #[13,?_]];by_cases h3:kd ks b="while"
         . refine ao (HJ (HY V.str h3)) ?_;show#[21,d,5,g1,21,bl,35,b4,hix,fin b _ _ _ _ (.whl h2 hb h3)]
         . refine ai (λz=>h3 (V.str.inj (bT z))) ?_;show#[45,ao (HJ (HY V.str h2)) ?_];have h6:k+1+1<ks.length:=by
             rcases Hk (k+1+1) ks.length with z|z
             . exact z
             . have:=w.last (k+1) ∅;rw[h2] at this;exact absurd this.symm back_ne.2
           let#[r,hr1,hr2]:=old (k+1) h6 ∅;show#[21,bl,35,aG.of b4,at_bs (k+1) r hr2,21,bl,35,b4,hix,fin r _ _ _ _ (.fin h2 hb h3 hr1)]
       . refine ai (λz=>h2 (V.str.inj (bT z))) (gB ?_);show#[45,ai (λz=>h2 (V.str.inj (bT z))) ?_];show#[85,bl,35,b4,hix,fin (k+1) _ _ _ _ (.oth h1 h2)]
     . rintro σ H4 ⟨s4,v3,v4,v6,v7,bs,rfl,e4,b4,l4,hb4⟩;show#[5,qF bl H4 s4 hbF #[bs,b4,l4,λk h1=>hb4 k h1 ∅]]
def fW:FnScope ["rows","begins","behind","turns","k","begin","found","row"] ["rows"] (ac iD):=by walk_at "s"
def GI (T:Txt K mg t):FnOk P w K mg base CX0 2 t.wY t.xq ["rows"] (K13.sp_ways K):=by
 have Qz:=D6 (P:=P) (w:=w) (base:=base) T;have QA:=EW (P:=P) (w:=w) (base:=base) T;refine T.ways.F.ok fW (λvs H Q E h=>?_) (λcdv A outer s H vs Q E hr h=>?_)
 . let#[_,_,rfl,_]:=h;rfl
 . skip
   refine lx ?_;intro XX;refine(let W6:TS:=_; have hW6:aV XX ((aU iD).drop 6) W6:=(~~~(pv 6)); ?_);refine(let W4:TS:=_; have hW4:aV XX ((aU iD).drop 4) W4:=(aK (@aa _ _ 6 _ _ _ _ fW.nd rfl 0x3 (bI aH) 0x1 0x5) (aK (cG PassesOwn.never rfl (uN rfl T.b_enumerate (pv 0>=>aH)) (dR rfl (bV (au (i:=4) fW.nd rfl 0x3) (bV (au (i:=7) fW.nd rfl 0x3) dE))) (@aO _ _ _ (ah (bL eS (aM ak (pv 7) aF 0x0) (bQ (aT>=>aT>=>aH)) (by with_unfolding_all rfl)) (@aO _ _ _ (@bK _ _ _ _ (br HK HP HQ eX (pv 6) (du>=>aH)) 0x1)) (@aO _ _ _ (ah (bL b7 (aM ak (pv 7) aF 0x0) aT (aY _)) (@aO _ _ _ (@bK _ _ _ _ (br HK HP HQ eX (pv 6) (bQ aH>=>aH)) 0x1)) (@aO _ _ _ (ah (oY (DX (bA hr.units) (pv 4) (pv 3))) (@aO _ _ _ (@bK _ _ _ _ (br HK HP HQ eX (pv 6) ((bQ ((aM dg (pv 2) (pv 4) 0x0)>=>(aM dg (pv 2) (cC (bA hr.units) (pv 3) (pv 4) 0x0) 0x0)>=>aH))>=>aH)) 0x1)) (@aO _ _ _ (@bK _ _ _ _ (br HK HP HQ eX (pv 6) ((bQ ((aM dg (pv 2) (pv 4) 0x0)>=>aH))>=>aH)) 0x1))))))))) hW6)); ?_);refine(let W2:TS:=_; have hW2:aV XX ((aU iD).drop 2) W2:=(aK (@aa _ _ 3 _ _ _ _ fW.nd rfl 0x3 eV 0x1 0x5) (aK (cG PassesOwn.never rfl (tT (pv 1)) (dR rfl (bV (au (i:=4) fW.nd rfl 0x3) (bV (au (i:=5) fW.nd rfl 0x3) dE))) (@aO _ _ _ (@bK _ _ _ _ (yK (pv 3) (pv 5) (pv 4) #[31]) 0x1))) hW4)); ?_);let#[a,ks,rfl,hR,w,hn,q]:=h;show#[_,(aK (@aa _ _ 1 _ _ _ _ fW.nd rfl 0x3 (b8 T.begins_of Qz (hr*>#[]) (pv 0>=>aH)) 0x1 0x5) (aK (@aa _ _ 2 _ _ _ _ fW.nd rfl 0x3 (b8 T.firsts_behind QA (hr*>#[]) (pv 0>=>pv 1>=>aH)) 0x1 0x5) hW2)),?_];show#[5,a,ks,rfl,hR,w,hn,λd H1 s1 n1 e1=>?_];show#[21,a,d,ks,rfl,hR*>s1,w,hn,e1,λl o H2 s2 n2 hB=>?_];have s02:aB H H2:=(s1.upd n1)\s2;have hdF:H2 d=⇑(.frz o (.dK (bg ks ks.length))):=s2 _ _ aI;have hl0:H l=none:=s1.free n2;refine λtd htd=>?_;have bl:=nW ks ks.length;let#[bs,hb1,hb2,hb3]:=hB;show#[5,d,bg ks ks.length,rfl,.inr #[o,aB.new htd _ _ hdF,?_]];refine rW (λi σ H3=>i<=(bg ks ks.length).length/\aB H2 H3/\∃v4 v5 tds,σ=[⇑↥a,⇑↥d,⇑↥l,⇑↥td,v4,v5,none,none]/\H3 td=⇑(.dK tds)/\tds.length<=i/\∀b:Nat,aZ tds (Sum.inl (b:Int):aE)=(ce ((bZ ks ks.length).take i) b).map λ(m:Nat)=>V.int (m:Int)) #[Hj _,aB.new htd,4,[],rfl,aI,Gw _,λb=>rfl] ?_ ?_ ?_
   . rintro i σ H3 hi ⟨_,s3,_⟩;exact s3 _ _ hdF
   . rintro i kv σ H3 b hkv ⟨hi,s3,v4,v5,tds,rfl,he,hel,hv⟩ hb;let#[p,hp,rfl]:=pZ hkv;have hlt:=(Gq.mp hkv).1;have he3:=aB.new (o:=.tup [V.int (p.1:Int),V.int (p.2:Int)]) hb _ _ he;show#[b,5,aN.of aI,403,?_];have tk:∀b',ce ((bZ ks ks.length).take (i+1)) b'=if(ce ((bZ ks ks.length).take i) b').isSome=true then ce ((bZ ks ks.length).take i) b' else if p.2=b' then ⇑p.1 else none:=λb'=>by rw[Hz,hp];exact qO _ p b'
     show#[5,td,rfl,.inl #[tds,.inl he3],21,tds,Sum.inl (p.2:Int),he3,rfl,eU ∅,λv hv'=>?_,λhv'=>?_]
     . show#[hlt,s3\(aB.new hb),4,tds,rfl,he3,∅,λb'=>?_];rw[hv b',tk b'];cases z:ce ((bZ ks ks.length).take i) b' with
       | some m=>rfl
       | none =>
         rw[Gu (show ¬ (none:Kd Nat).isSome=true by decide),Gu];intro h;rw[h,hv b',z] at hv';cases hv'
     . show#[hlt,(s3\(aB.new hb)).upd htd,17,aI,Hf (dN _ _ _) ∅,λb'=>?_];rw[dj,tk b'];by_cases h:p.2=b'
       . subst h;have z:ce ((bZ ks ks.length).take i) p.2=none:=by
           rw[hv p.2] at hv';cases y:ce ((bZ ks ks.length).take i) p.2 with
           | none=>rfl
           | some m=>rw[y] at hv'; cases hv'
         rw[HI rfl,z,Gu (show ¬ (none:Kd Nat).isSome=true by decide),HI rfl];rfl
       . rw[Gu (λz=>h (by have:(b':Int)=(p.2:Int):=Sum.inl.inj z; lia)),hv b',Gu h];cases z:ce ((bZ ks ks.length).take i) b' with
         | some m=>rfl
         | none=>rfl
   . rintro σ H3 ⟨_,s3,v4,v5,tds,rfl,he,hel,hv⟩;have hv:∀b:Nat,aZ tds (Sum.inl (b:Int):aE)=(ce (bZ ks ks.length) b).map λ(m:Nat)=>V.int (m:Int):=λb=>by rw[hv b];unfold bg fB;rw[Go,IP]
     let#[rs,r1,r2,r3]:=hR.ex;show#[cM,λfl hfl=>?_];have s03:=s02\s3;have hf2:H3 fl=none:=hfl;have htf:td≠fl:=λz=>by rw[<- z,he] at hfl; cases hfl
     have hf0:H fl=none:=s03.free hfl;show#[5,a,rfl,#[_,(s03\(aB.new hfl))<*r1],(let Jv1:Nat->St->Hp->Prop:=λi σ H4=>i<=ks.length/\aB H3 H4/\(∃v4 v5 v7,σ=[⇑↥a,⇑↥d,⇑↥l,⇑↥td,v4,v5,⇑↥fl,v7])/\FoundN H4 fl ks i; qf (xs:=rs.map V.ref) Jv1 #[Hj _,aB.new hfl,#[17],#[[],aI,rfl,λk v z=>by simp at z]] ?_ ?_ ?_)]
     . rintro i σ H4 hi ⟨_,s4,_⟩;exact(s03\s4).tup r1
     . rintro i x σ H4 b hx ⟨hi',s4,⟨v4,v5,v7,rfl⟩,hF⟩ hb;have hi:i<rs.length:=by have:=(Gq.mp hx).1;rw[Go] at this;exact this
       rw[HV] at hx;have hx:V.ref rs[i]=x:=by simpa [hi] using hx
       subst hx;let#[rest,hrow]:=r3 i rs[i] (by simp [hi]);have s5:=s4\(aB.new (o:=.tup [.int i,.ref rs[i]]) hb);have hF5:=hF*>(aB.new (o:=.tup [.int i,.ref rs[i]]) hb);show#[b,5,aN.of aI,403,?_];show#[5,rs[i],35,(s03\s5)<*hrow,aP,bE,λtw htw=>#[tw,[V.str "else",V.str "end"],rfl,.inr (aN.of aI),29,?_]];have s6:=s5\(aB.new (o:=.tup [V.str "else",V.str "end"]) htw);let#[vs,f1,f2,f3]:=hF5*>(aB.new (o:=.tup [V.str "else",V.str "end"]) htw);generalize upd (upd H4 b (.tup [.int i,.ref rs[i]])) tw (.tup [V.str "else",V.str "end"])=H6 at s6 f1 f3 ⊢;have s06:=s03\s6;have fin:∀{H7:Hp} {v:V} {oo:Kd (List Nat)} (u4 u5 u7:Kd V),aB H6 H7->Due ks i oo->fA H7 v oo->i+1<=ks.length/\aB H3 (upd H7 fl (.lst (vs++[v])))/\(∃v4 v5 v7,([⇑↥a,⇑↥d,⇑↥l,⇑↥td,u4,u5,⇑↥fl,u7]:St)=[⇑↥a,⇑↥d,⇑↥l,⇑↥td,v4,v5,⇑↥fl,v7])/\FoundN (upd H7 fl (.lst (vs++[v]))) fl ks (i+1):=λu4 u5 u7 s7 hd hv=>by show#[∅,(s6\s7).upd hfl,#[17],FoundN.push (s7 _ _ f1) f2 (λk v z=>?_) hd hv];let#[o',d',y]:=f3 k v z;show#[o',d',y*>s7]
       by_cases hE:isE (kd ks i)=true
       . refine ao ((inE _)\hE) ?_;show#[5,.inl #[6,aG.of f1],fl,19,f1,eU ∅,fin _ _ _ (aB.refl _) (.no hE) rfl]
       refine ai (λz=>hE ((inE _).symm.trans z)) ?_;show#[5,rs[i],35,s06<*hrow,aP,13,?_];by_cases hbk:kd ks i="back"
       . refine ao (HJ (HY V.str hbk)) ?_;show#[5,.inl #[6,aG.of f1],cM,λp hp=>#[fl,19,aB.new hp _ _ f1,eU ∅,fin _ _ _ (aB.new hp) (.back hbk) #[p,rfl,aI]]]
       refine ai (λz=>hbk (V.str.inj (bT z))) ?_;have hlast:=not_last w ∅ hbk;let#[r,hr1,hr2]:=hb3 i hlast;have hb6:=(s3\s6) _ _ hb1;have ht6:=s6 _ _ he;show#[21,td,5,cX.k (k:=Sum.inl (i:Int)) ht6,5,?_];by_cases hO:isO (kd ks i)=true
       . let#[e,hEn]:=ends_ex w ∅ hO;let#[f,hf]:=n9 hEn;let#[r',hr3,hr4]:=hb3 f (first_last w hf);have hvi:aZ tds (Sum.inl (i:Int):aE)=⇑(V.int (f:Int)):=by rw[hv i,F4 hf]; rfl
         refine ao (by rw[hvi]; rfl) ?_;have g:cX H6 td (.int (i:Int)) ⇑(V.int (f:Int)):=.inl #[_,Sum.inl (i:Int),.inl ht6,rfl,hvi.symm];show#[5,.inl #[6,aG.of f1],21,l,35,aG.of hb6,dO hr2,85,td,5,g,l,35,aG.of hb6,dO hr4,bE,λp hp=>#[fl,19,aB.new hp _ _ f1,eU ∅,fin _ _ _ (aB.new hp) (.two hO hf hr1 hr3) #[p,rfl,aI]]]
       . have hvi:aZ tds (Sum.inl (i:Int):aE)=none:=by rw[hv i,Ci hO]; rfl
         refine ai (by rw[hvi]; decide) ?_;show#[5,.inl #[6,aG.of f1],21,l,35,aG.of hb6,dO hr2,d6,λp hp=>#[fl,19,aB.new hp _ _ f1,eU ∅,fin _ _ _ (aB.new hp) (.one hE hbk hO hr1) #[p,rfl,aI]]]
     . rintro σ H4 ⟨_,s4,⟨v4,v5,v7,rfl⟩,hF⟩;rw[Go,r2] at hF;show#[5,q fl H4 (s03\s4) hf0 hF]
end
end K25
namespace K25
open PySem L2 Gx Fl F2
section
variable {P:Program} {w:World} {K:Kh} {mg:Str->Kd Ke} {base:Heap} {t:Adr}
def nC:FnScope ["self","program","k","function"] ["self","program"] (ac gg):=by walk_at "s"
def Fw (T:Txt K mg t):FnOk P w K mg base CX0 4 t.vB t.wb ["self","program"] (AV K t):=by
 have QB:=yy (P:=P) (w:=w) (base:=base) T;have QC:=GI (P:=P) (w:=w) (base:=base) T;refine T.uy.F.ok nC (λvs H Q E h=>?_) (λcdv A outer s H vs Q E hr h=>?_)
 . let#[_,_,_,_,rfl,_]:=h;rfl
 . skip
   refine lx ?_;intro XX;refine(let W6:TS:=_; have hW6:aV XX ((aU gg).drop 6) W6:=(rE (dJ (pv 0) eV 0x1) (@aO _ _ _ (cG PassesOwn.never rfl (m5 rfl T.b_enumerate (pv 1>=>aH)) (dR rfl (bV (au (i:=2) nC.nd rfl 0x3) (bV (au (i:=3) nC.nd rfl 0x3) dE))) (aK (cQ (bA hr.units) (bS (pv 0) 0x1) (aM ak (pv 3) aF 0x0) (pv 2) 0x1) (aK (cQ (bA hr.units) (bS (pv 0) 0x1) (aM ak (pv 3) aF 0x0) (aM ak (pv 3) aF 0x0) 0x1) (aK (cQ (bA hr.units) (bS (pv 0) 0x1) (aM ak (pv 3) aF 0x0) (aM ak (pv 3) aF 0x0) 0x1) (aK (cQ (bA hr.units) (bS (pv 0) 0x1) (aM ak (pv 3) aF 0x0) (aM ak (pv 3) aF 0x0) 0x1) (aK (cQ (bA hr.units) (bS (pv 0) 0x1) (aM ak (pv 3) aF 0x0) (b8 T.names_of QB (hr*>#[]) (pv 3>=>aH)) 0x1) (@aO _ _ _ (cQ (bA hr.units) (bS (pv 0) 0x1) (aM ak (pv 3) aF 0x0) (b8 T.ways QC (hr*>#[]) ((aM ak (pv 3) aF 0x0)>=>aH)) 0x1)))))))))); ?_);refine(let W4:TS:=_; have hW4:aV XX ((aU gg).drop 4) W4:=(aK (dJ (pv 0) eV 0x1) (aK (dJ (pv 0) eV 0x1) hW6)); ?_);refine(let W2:TS:=_; have hW2:aV XX ((aU gg).drop 2) W2:=(aK (dJ (pv 0) eV 0x1) (aK (dJ (pv 0) eV 0x1) hW4)); ?_);let#[x,dx,p,fns,rfl,hx,hS,n0,n12,hE,nd,q]:=h;show#[_,(aK (dJ (pv 0) (aM ak (aM dg (pv 1) (dG dD aF) 0x0) aF 0x0) 0x1) (aK (dJ (pv 0) eV 0x1) hW2)),?_];have fl:(fns.map λf=>V.ref f.fa).length=fns.length:=Go _;have np:0<fns.length:=K1.mpr n0;obtain⟨fz,hz⟩:∃fz,fns[fns.length - 1]?=⇑fz:=#[fns[fns.length - 1],HN ∅]
   have hzT:=(hE fz (He hz)).fn;have eL:bD (fns.map λf=>V.ref f.fa) (-1)=⇑(V.ref fz.fa):=by
     unfold bD d9;rw[Gu #[],HI (by rw[fl]; lia),Jm];have:((-1:Int)+((fns.map λf=>V.ref f.fa).length:Int)).toNat=fns.length - 1:=by rw[fl]; lia
     rw[this,HV,hz];rfl
   show#[21,p,35,kC.seq hS,eL,fz.fa,35,kC<*hzT,aP,5,x,t.bR,dx,5,hx,T.d7.cl,T.jB,(by show 0<1000; decide),?_];have sx:∀{b:Kg} {o:HO},ers x H b=⇑o->b≠x/\H b=⇑o:=λ{b o} e=>by
     have hb:b≠x:=λz=>by rw[z] at e; unfold ers at e; rw[HI rfl] at e; cases e
     rw[cy hb] at e;show#[hb,e]
   have l1:=ib "last" (V.str fz.name) [] 0 (Gw _);intro d0 h0;show#[5,x,t.bR,dx,5,bG aI (Ne.symm (bW h0).1),T.d7.cl,T.jC,∅,?_];have l2:=ib "number_of" ↥d0 _ 1 l1;intro d1 h1;show#[5,x,t.bR,dx,5,bG aI (Ne.symm (bW h1).1),T.d7.cl,T.jA,∅,?_];have l3:=ib "folded_of" ↥d1 _ 2 l2;intro d2 h2;show#[5,x,t.bR,dx,5,bG aI (Ne.symm (bW h2).1),T.d7.cl,T.iG,∅,?_];have l4:=ib "params_of" ↥d2 _ 3 l3;intro d3 h3;show#[5,x,t.bR,dx,5,bG aI (Ne.symm (bW h3).1),T.d7.cl,T.iH,∅,?_];have l5:=ib "rows_of" ↥d3 _ 4 l4;intro d4 h4;show#[5,x,t.bR,dx,5,bG aI (Ne.symm (bW h4).1),T.d7.cl,T.gc,∅,?_];have l6:=ib "names_in" ↥d4 _ 5 l5;show#[λσ' G=>∃d:Nat->Kg,σ'=[⇑↥x,⇑↥p,none,none]/\FS t.bR G x dx (dM (V.str fz.name) d) d (λ_=>[])/\(∀i j,i<6->j<6->d i=d j->i=j)/\aB (ers x H) G/\∀k,ers x H (d k)=none,?_,?_]
   . intro d5 h5;let#[nx0,z0]:=bW h0;have q0:H d0=none:=z0;let#[nx1,z1]:=bW h1;let#[n10,w10]:=bW z1;let#[_,y10]:=bW w10;have q1:H d1=none:=y10;let#[nx2,z2]:=bW h2;let#[n21,w21]:=bW z2;let#[_,y21]:=bW w21;let#[n20,w20]:=bW y21;let#[_,y20]:=bW w20;have q2:H d2=none:=y20;let#[nx3,z3]:=bW h3;let#[n32,w32]:=bW z3;let#[_,y32]:=bW w32;let#[n31,w31]:=bW y32;let#[_,y31]:=bW w31;let#[n30,w30]:=bW y31;let#[_,y30]:=bW w30;have q3:H d3=none:=y30;let#[nx4,z4]:=bW h4;let#[n43,w43]:=bW z4;let#[_,y43]:=bW w43;let#[n42,w42]:=bW y43;let#[_,y42]:=bW w42;let#[n41,w41]:=bW y42;let#[_,y41]:=bW w41;let#[n40,w40]:=bW y41;let#[_,y40]:=bW w40;have q4:H d4=none:=y40;let#[nx5,z5]:=bW h5;let#[n54,w54]:=bW z5;let#[_,y54]:=bW w54;let#[n53,w53]:=bW y54;let#[_,y53]:=bW w53;let#[n52,w52]:=bW y53;let#[_,y52]:=bW w52;let#[n51,w51]:=bW y52;let#[_,y51]:=bW w51;let#[n50,w50]:=bW y51;let#[_,y50]:=bW w50;have q5:H d5=none:=y50;have inj:=CI (d0:=d0) (d1:=d1) (d2:=d2) (d3:=d3) (d4:=d4) (d5:=d5) (by simp [Ne.symm n10,Ne.symm n20,Ne.symm n30,Ne.symm n40,Ne.symm n50,Ne.symm n21,Ne.symm n31,Ne.symm n41,Ne.symm n51,Ne.symm n32,Ne.symm n42,Ne.symm n52,Ne.symm n43,Ne.symm n53,Ne.symm n54]);show#[5,x,t.bR,dx,5,bG aI (Ne.symm nx5),T.d7.cl,T.iI,∅,dd d0 d1 d2 d3 d4 d5,rfl,#[aI,λj hj=>?_],inj,λb o e=>bG (bG (bG (bG (bG (bG (bG (bG (bG (bG (bG (bG (bG (sx e).2 (sx e).1) (dC (sx e).2 q0)) (sx e).1) (dC (sx e).2 q1)) (sx e).1) (dC (sx e).2 q2)) (sx e).1) (dC (sx e).2 q3)) (sx e).1) (dC (sx e).2 q4)) (sx e).1) (dC (sx e).2 q5)) (sx e).1,λk=>?_]
     . match j,hj with
       | 0,_=>exact bG (bG (bG (bG (bG (bG (bG (bG (bG (bG (bG aI nx0) (Ne.symm n10)) nx0) (Ne.symm n20)) nx0) (Ne.symm n30)) nx0) (Ne.symm n40)) nx0) (Ne.symm n50)) nx0
       | 1,_=>exact bG (bG (bG (bG (bG (bG (bG (bG (bG aI nx1) (Ne.symm n21)) nx1) (Ne.symm n31)) nx1) (Ne.symm n41)) nx1) (Ne.symm n51)) nx1
       | 2,_=>exact bG (bG (bG (bG (bG (bG (bG aI nx2) (Ne.symm n32)) nx2) (Ne.symm n42)) nx2) (Ne.symm n52)) nx2
       | 3,_=>exact bG (bG (bG (bG (bG aI nx3) (Ne.symm n43)) nx3) (Ne.symm n53)) nx3
       | 4,_=>exact bG (bG (bG aI nx4) (Ne.symm n54)) nx4
       | 5,_=>exact bG aI nx5
       | n+6,h=>lia
     . match k with
       | 0=>exact(cy nx0).trans q0
       | 1=>exact(cy nx1).trans q1
       | 2=>exact(cy nx2).trans q2
       | 3=>exact(cy nx3).trans q3
       | 4=>exact(cy nx4).trans q4
       | n+5=>exact(cy nx5).trans q5
   rintro σ' G ⟨d,rfl,hFS,inj,hsm,hfd⟩;show#[5,p,rfl,#[_,hsm.seq hS],(let Jv1:Nat->St->Hp->Prop:=λi σ H2=>∃(v2 v3:Kd V) (kv:Nat->List (aE×V)) (nl wl:Nat->Kg),σ=[⇑↥x,⇑↥p,v2,v3]/\aB (ers x H) H2/\FS t.bR H2 x dx (dM (V.str fz.name) d) d kv/\kv 0=kD (λi _=>.int i) (fns.take i)/\kv 1=kD (λ_ f=>f.fo) (fns.take i)/\kv 2=kD (λ_ f=>↥f.pa) (fns.take i)/\kv 3=kD (λ_ f=>↥f.ra) (fns.take i)/\kv 4=kD (λi _=>↥(nl i)) (fns.take i)/\kv 5=kD (λi _=>↥(wl i)) (fns.take i)/\(∀j g,j<i->fns[j]?=⇑g->hl H2 (nl j)=⇑(.lst ((nms g).map V.str))/\K13.FoundN (hl H2) (wl j) (kds g) (kds g).length/\ers x H (nl j)=none/\ers x H (wl j)=none)/\∀j,j<6->(kv j).length<=i; lA (xs:=fns.map λf=>V.ref f.fa) Jv1 #[8,λ_=>0,λ_=>0,rfl,hsm,hFS,127,λj g h=>absurd h (Iz _),λj hj=>Gw _] ?_ ?_ ?_)]
   . rintro i σ H2 hi ⟨v2,v3,kv,nlf,wlf,rfl,s2,_⟩;exact s2.seq hS
   . rintro i y σ H2 b hy ⟨v2,v3,kv,nlf,wlf,rfl,s2,o2,k0,k1,k2,k3,k4,k5,hnw,kl⟩ hb;let#[f,hi,hm,rfl]:=cb hy;have ilt:i<fns.length:=(Gq.mp hi).1;have hT:=(hE f hm).fn;have hfu:=(hE f hm).fu;have fit:∀{n:Nat},n<=i+1->n<sizeLine:=λ{n} h=>yO ∅;show#[b,5,aN.of aI,403,?_];have s3:=s2\(aB.new (o:=.tup [.int i,↥f.fa]) hb);have o3:=o2*>(aB.new (o:=.tup [.int i,↥f.fa]) hb);show#[21,x,t.bR,dx,9,o3.ob,T.d7.cl,T.jC,Fx _ _,5,f.fa,35,s3<*hT,aP,d 0,5,bo.k (k:=(Sum.inr f.name:aE)) (show _=⇑(HO.dK (kv 0)) from o3.dc 0 #[]) (fit (by have:=kl 0 #[]; simpa using (by lia:_<=i+1))),?_];have s4:=aB.upd (o:=.dK (aQ (kv 0) (Sum.inr f.name:aE) (V.int i))) s3 (hfd 0);have o4:=o3.put inj 0 #[] (aQ (kv 0) (Sum.inr f.name:aE) (V.int i));show#[5,f.fa,35,s4<*hT,13,x,t.bR,dx,9,o4.ob,T.d7.cl,T.jA,FD _ _,5,f.fa,35,s4<*hT,aP,d 1,5,bo.k (k:=(Sum.inr f.name:aE)) (show _=⇑(HO.dK (kv 1)) from o4.dc 1 #[]) (fit (by have:=kl 1 #[]; simpa using (by lia:_<=i+1))),?_];have s5:=aB.upd (o:=.dK (aQ (kv 1) (Sum.inr f.name:aE) f.fo)) s4 (hfd 1);have o5:=o4.put inj 1 #[] (aQ (kv 1) (Sum.inr f.name:aE) f.fo);show#[5,f.fa,35,s5<*hT,13,x,t.bR,dx,9,o5.ob,T.d7.cl,T.iG,tN _ _,5,f.fa,35,s5<*hT,aP,d 2,5,bo.k (k:=(Sum.inr f.name:aE)) (show _=⇑(HO.dK (kv 2)) from o5.dc 2 #[]) (fit (by have:=kl 2 #[]; simpa using (by lia:_<=i+1))),?_];have s6:=aB.upd (o:=.dK (aQ (kv 2) (Sum.inr f.name:aE) ↥f.pa)) s5 (hfd 2);have o6:=o5.put inj 2 #[] (aQ (kv 2) (Sum.inr f.name:aE) ↥f.pa);show#[5,f.fa,35,s6<*hT,13,x,t.bR,dx,9,o6.ob,T.d7.cl,T.iH,qT _ _,5,f.fa,35,s6<*hT,aP,d 3,5,bo.k (k:=(Sum.inr f.name:aE)) (show _=⇑(HO.dK (kv 3)) from o6.dc 3 #[]) (fit (by have:=kl 3 #[]; simpa using (by lia:_<=i+1))),?_];have s7:=aB.upd (o:=.dK (aQ (kv 3) (Sum.inr f.name:aE) ↥f.ra)) s6 (hfd 3);have o7:=o6.put inj 3 #[] (aQ (kv 3) (Sum.inr f.name:aE) ↥f.ra);show#[5,f.fa,f.ps,f.ds,rfl,hfu*>s7,λnl H8 e8 hnl hl8=>?_];have s8:=s7\e8;have o8:=o7*>e8;show#[5,x,t.bR,dx,9,o8.ob,T.d7.cl,T.gc,uZ _ _,5,f.fa,35,s8<*hT,aP,d 4,5,bo.k (k:=(Sum.inr f.name:aE)) (show _=⇑(HO.dK (kv 4)) from o8.dc 4 #[]) (fit (by have:=kl 4 #[]; simpa using (by lia:_<=i+1))),?_];have s9:=aB.upd (o:=.dK (aQ (kv 4) (Sum.inr f.name:aE) ↥nl)) s8 (hfd 4);have o9:=o8.put inj 4 #[] (aQ (kv 4) (Sum.inr f.name:aE) ↥nl);show#[5,f.fa,35,s9<*hT,rfl,f.ra,kds f,rfl,((hE f hm).old.mono s9).rows,(hE f hm).wf,(by unfold kds; rw[Go]; have:=(hE f hm).len; lia),λwl HA eA hwl dP=>?_];have sA:=s9\eA;have oA:=o9*>eA;show#[5,x,t.bR,dx,9,oA.ob,T.d7.cl,T.iI,qD _ _,5,f.fa,35,sA<*hT,aP,d 5,5,bo.k (k:=(Sum.inr f.name:aE)) (show _=⇑(HO.dK (kv 5)) from oA.dc 5 #[]) (fit (by have:=kl 5 #[]; simpa using (by lia:_<=i+1))),?_];have sB:=aB.upd (o:=.dK (aQ (kv 5) (Sum.inr f.name:aE) ↥wl)) sA (hfd 5);have oB:=oA.put inj 5 #[] (aQ (kv 5) (Sum.inr f.name:aE) ↥wl);have c3:aB (hl H2) (hl H8):=by have z1:aB (hl H2) (hl (upd H2 b (.tup [.int i,↥f.fa]))):=(aB.new (o:=.tup [.int i,↥f.fa]) hb).hl;have z2:=e8.hl;rw[ip (o6.dc 3 #[]),ip (o5.dc 2 #[]),ip (o4.dc 1 #[]),ip (o3.dc 0 #[])] at z2;exact z1\z2
     have c4:aB (hl H8) (hl HA):=by have z2:=eA.hl;rw[ip (o8.dc 4 #[])] at z2;exact z2
     have c5:hl (upd HA (d 5) (.dK (aQ (kv 5) (Sum.inr f.name:aE) ↥wl)))=hl HA:=ip (oA.dc 5 #[]);show#[8,λj=>if j=i then nl else nlf j,λj=>if j=i then wl else wlf j,rfl,sB,oB,?_,?_,?_,?_,?_,?_,λj g hj hg=>?_,λj hj=>?_]
     . show aQ (kv 0) (Sum.inr f.name:aE) (V.int i)=_;rw[k0];exact iA hi nd (λ_ _ _=>rfl) rfl
     . show aQ (kv 1) (Sum.inr f.name:aE) f.fo=_;rw[k1];exact iA hi nd (λ_ _ _=>rfl) rfl
     . show aQ (kv 2) (Sum.inr f.name:aE) ↥f.pa=_;rw[k2];exact iA hi nd (λ_ _ _=>rfl) rfl
     . show aQ (kv 3) (Sum.inr f.name:aE) ↥f.ra=_;rw[k3];exact iA hi nd (λ_ _ _=>rfl) rfl
     . show aQ (kv 4) (Sum.inr f.name:aE) ↥nl=_;rw[k4];exact iA hi nd (λj _ hj=>by show V.ref (nlf j)=V.ref (if j=i then nl else nlf j); rw[Gu ∅]) (by show V.ref nl=V.ref (if i=i then nl else nlf i); rw[HI rfl])
     . show aQ (kv 5) (Sum.inr f.name:aE) ↥wl=_;rw[k5];exact iA hi nd (λj _ hj=>by show V.ref (wlf j)=V.ref (if j=i then wl else wlf j); rw[Gu ∅]) (by show V.ref wl=V.ref (if i=i then wl else wlf i); rw[HI rfl])
     . rw[c5];by_cases hji:j=i
       . subst hji;rw[hi] at hg;cases hg;show#[?_,?_,by show ers x H (if j=j then nl else nlf j)=none; rw[HI rfl]; exact s7.free hnl,by show ers x H (if j=j then wl else wlf j)=none; rw[HI rfl]; exact s9.free hwl]
         . show hl HA (if j=j then nl else nlf j)=_;rw[HI rfl];exact c4 _ _ (sm hl8)
         . show K13.FoundN (hl HA) (if j=j then wl else wlf j) _ _;rw[HI rfl];exact dP.hl
       . let#[y1,y2,y3,y4]:=hnw j g ∅ hg;show#[?_,?_,by show ers x H (if j=i then nl else nlf j)=none; rw[Gu hji]; exact y3,by show ers x H (if j=i then wl else wlf j)=none; rw[Gu hji]; exact y4]
         . show hl HA (if j=i then nl else nlf j)=_;rw[Gu hji];exact c4 _ _ (c3 _ _ y1)
         . show K13.FoundN (hl HA) (if j=i then wl else wlf j) _ _;rw[Gu hji];exact y2*>(c3\c4)
     . have e:=kl j hj
       match j,hj with
       | 0,_=>exact Hf (dN _ _ _) ∅
       | 1,_=>exact Hf (dN _ _ _) ∅
       | 2,_=>exact Hf (dN _ _ _) ∅
       | 3,_=>exact Hf (dN _ _ _) ∅
       | 4,_=>exact Hf (dN _ _ _) ∅
       | 5,_=>exact Hf (dN _ _ _) ∅
       | n+6,h=>lia
   . rintro σ H2 ⟨v2,v3,kv,nlf,wlf,rfl,s2,o2,k0,k1,k2,k3,k4,k5,hnw,kl⟩;rw[fl,IP] at k0 k1 k2 k3 k4 k5;exact q H2 s2 #[λf hf=>(hE f hf)*>s2,nd,dx,fz,d,kv,nlf,wlf,hz,o2,k0,k1,k2,k3,k4,k5,λi f hi=>by let#[y1,y2,_]:=hnw i f (by rw[fl]; exact(Gq.mp hi).1) hi; show#[jn _ _ y1,y2*>jn]] λa xs o ha=>by
       have e2:=s2 _ _ ha;have ne:∀{b:Kg} {u:HO},H2 b=⇑u->(∀l,u≠.lst l)->b≠a:=λhb hu z=>by rw[z,e2] at hb; cases hb; exact hu _ rfl
       have na:∀{b:Kg},ers x H b=none->b≠a:=λhb z=>by rw[z,ha] at hb; cases hb
       show#[λf hf=>K55.fnAt_ts ((hE f hf)*>s2) (K55.TS.lst e2),nd,dx,fz,d,kv,nlf,wlf,hz,#[(aJ (ne o2.ob λ_ z=>by cases z))\o2.ob,λj hj=>(aJ (ne (o2.dc j hj) λ_ z=>by cases z))\(o2.dc j hj)],k0,k1,k2,k3,k4,k5,λi f hi=>by let#[y1,y2,y3,y4]:=hnw i f (by rw[fl]; exact(Gq.mp hi).1) hi; show#[(aJ (na y3))\(jn _ _ y1),FA (y2*>jn) e2 (na y4)]]
end
end K25
namespace K25
open PySem L2 K21
section
variable {P:Program} {w:World} {K:Kh} {mg:Str->Kd Ke} {base:Heap} {t:Adr}
def yo:FnScope ["sign","one","other"] ["sign","one","other"] (ac kN):=by walk_at "s"
def Au (T:Txt K mg t):FnOk P w K mg base CX0 1 t.wX t.xp ["sign","one","other"] (A5 K):=by
 refine T.value.F.ok yo (λvs H Q E h=>?_) (λcdv A outer s H vs Q E hr h=>?_)
 . let#[_,_,_,rfl,_]:=h;rfl
 . let#[s,a,b,rfl,h1,h2,h3,h4,q]:=h;show#[_,(aK (ah (bL b7 (pv 0) aT (aY _)) (~~~(cN<$>(cV<$>pv 1<*>pv 2)<*>nO T.pL)) aj) (aK (ah (bL b7 (pv 0) aT (aY _)) (~~~(cN<$>(dS<$>pv 1<*>pv 2)<*>nO T.pL)) aj) (aK (ah (bL b7 (pv 0) aT (aY _)) (~~~(cN<$>(fS<$>pv 1<*>pv 2)<*>nO T.pL)) aj) (aK (ah (bL b7 (pv 0) aT (aY _)) (~~~(@iW _ _ _ _ _ _ _ _ (bL b7 (pv 2) aF (aY _)) aF (eG<$>pv 1<*>pv 2))) aj) (aK (ah (bL b7 (pv 0) aT (aY _)) (~~~(@iW _ _ _ _ _ _ _ _ (bL g9 (pv 1) (pv 2) (aY _)) aF aF)) aj) (aK (ah (bL b7 (pv 0) aT (aY _)) (~~~(@iW _ _ _ _ _ _ _ _ (bL b7 (pv 1) (pv 2) (aY _)) aF aF)) aj) (aK (ah (bL b7 (pv 0) aT (aY _)) (~~~(uP<$>pv 1<*>pv 2)) aj) (aK (ah (bL b7 (pv 0) aT (aY _)) (~~~(uT<$>pv 1<*>pv 2)) aj) (~~~(pd<$>pv 1<*>pv 2)))))))))),?_];have hw:wide=281474976710656:=rfl;show#[45,?_];by_cases k1:s="+"
   . refine ao (HJ (HY V.str k1)) ?_;have e:valOf s a b=(a+b)%wide:=by unfold valOf; rw[HI k1]
     rw[e] at q;show#[5427,(show(0:Int)<281474976710656 by decide),q]
   refine ai (λz=>k1 (V.str.inj (bT z))) ?_;show#[45,?_];by_cases k2:s="-"
   . refine ao (HJ (HY V.str k2)) ?_;have e:valOf s a b=(a - b)%wide:=by unfold valOf; rw[Gu k1,HI k2]
     rw[e] at q;show#[5427,(show(0:Int)<281474976710656 by decide),q]
   refine ai (λz=>k2 (V.str.inj (bT z))) ?_;show#[45,?_];by_cases k3:s="*"
   . refine ao (HJ (HY V.str k3)) ?_;have e:valOf s a b=(a * b)%wide:=by unfold valOf; rw[Gu k1,Gu k2,HI k3]
     rw[e] at q;show#[339,.inl #[∅,∅],19,(show(0:Int)<281474976710656 by decide),q]
   refine ai (λz=>k3 (V.str.inj (bT z))) ?_;show#[45,?_];by_cases k4:s="/"
   . refine ao (HJ (HY V.str k4)) ?_;have e:valOf s a b=if b=0 then 0 else a / b:=by unfold valOf; rw[Gu k1,Gu k2,Gu k3,HI k4]
     rw[e] at q;show#[45,?_];by_cases hb:b=0
     . rw[HI hb] at q;exact ao (HJ (HY V.int hb)) q
     . rw[Gu hb] at q;exact ai (λz=>hb (V.int.inj (bT z))) #[339,#[∅,∅],q]
   refine ai (λz=>k4 (V.str.inj (bT z))) ?_;show#[45,?_];by_cases k5:s="<"
   . refine ao (HJ (HY V.str k5)) ?_;have e:valOf s a b=if a<b then 1 else 0:=by unfold valOf; rw[Gu k1,Gu k2,Gu k3,Gu k4,HI k5]
     rw[e] at q;show#[1357,?_];by_cases hb:a<b
     . rw[HI hb] at q;exact ao (HJ hb) q
     . rw[Gu hb] at q;exact ai (λz=>hb (bT z)) q
   refine ai (λz=>k5 (V.str.inj (bT z))) ?_;show#[45,?_];by_cases k6:s="="
   . refine ao (HJ (HY V.str k6)) ?_;have e:valOf s a b=if a=b then 1 else 0:=by unfold valOf; rw[Gu k1,Gu k2,Gu k3,Gu k4,Gu k5,HI k6]
     rw[e] at q;show#[173,?_];by_cases hb:a=b
     . rw[HI hb] at q;exact ao (HJ (HY V.int hb)) q
     . rw[Gu hb] at q;exact ai (λz=>hb (V.int.inj (bT z))) q
   refine ai (λz=>k6 (V.str.inj (bT z))) ?_;show#[45,?_];by_cases k7:s="&"
   . refine ao (HJ (HY V.str k7)) ?_;have e:valOf s a b=Builtin.bitAnd a b:=by unfold valOf bw; rw[Gu k1,Gu k2,Gu k3,Gu k4,Gu k5,Gu k6,HI k7]
     rw[e] at q;show#[339,q]
   refine ai (λz=>k7 (V.str.inj (bT z))) ?_;show#[45,?_];by_cases k8:s="|"
   . refine ao (HJ (HY V.str k8)) ?_;have e:valOf s a b=Builtin.bitOr a b:=by unfold valOf bw; rw[Gu k1,Gu k2,Gu k3,Gu k4,Gu k5,Gu k6,Gu k7,HI k8]
     rw[e] at q;show#[339,q]
   refine ai (λz=>k8 (V.str.inj (bT z))) ?_;have e:valOf s a b=Builtin.bitXor a b:=by unfold valOf bw; rw[Gu k1,Gu k2,Gu k3,Gu k4,Gu k5,Gu k6,Gu k7,Gu k8]
   rw[e] at q;show#[339,q]
end
end K25
namespace K25
open PySem L2 Gx Fl Wk Wh
section
variable {P:Program} {w:World} {K:Kh} {mg:Str->Kd Ke} {base:Heap} {t:Adr}
def Dd:FnScope ["self","program"] ["self","program"] (ac lJ):=by walk_at "s"
def yX (T:Txt K mg t):FnOk P w K mg base CX0 6 t.vV t.x6 ["self","program"] (Bf K t):=by
 have QD:=Fw (P:=P) (w:=w) (base:=base) T;refine T.pC.F.ok Dd (λvs H Q E h=>?_) (λcdv A outer s H vs Q E hr h=>?_)
 . let#[_,_,_,_,rfl,_]:=h;rfl
 . let#[x,dx,p,fns,rfl,hx,hp,hne,hlen,hall,hnd,q]:=h;show#[_,(aK (dJ (pv 0) (nK T.d7 T.uy QD (hr*>#[]) (pv 1>=>aH)) 0x1) (aK (dJ (pv 0) (bI aH) 0x1) (aK (dJ (pv 0) du 0x1) (aK (dJ (pv 0) (bI aH) 0x1) (aK (dJ (pv 0) sP 0x1) (@aO _ _ _ (dJ (pv 0) aF 0x1))))))),?_];show#[5,λfl fdx hfl hfdx nfd=>?_];have nxf:x≠fl:=λz=>by rw[<- z,hx] at hfl; cases hfl
   have nxd:x≠fdx:=λz=>by rw[<- z,hx] at hfdx; cases hfdx
   have sE:aB (ers x H) (ers fl (upd (upd H fdx (.own fl)) fl (.ins t.bR fdx []))):=λb o hb=>by
     unfold L2.ers at hb;split at hb
     . cases hb
     . have n1:b≠fl:=λz=>by rw[z,hfl] at hb; cases hb
       have n2:b≠fdx:=λz=>by rw[z,hfdx] at hb; cases hb
       rw[cy n1,aJ n1,aJ n2];exact hb
   show#[fl,fdx,p,fns,rfl,aI,sE.seq hp,hne,hlen,λf hf=>(hall f hf)*>sE,hnd,λH2 s2 hFl hOf=>#[rfl,?_]];have hx2:H2 x=⇑(.ins t.bn dx []):=s2 _ _ (by rw[cy nxf,aJ nxf,aJ nxd]; exact hx);have sb:aB (ers x H) (ers x H2):=λb o hb=>by
     have nb:b≠x:=λz=>by rw[z] at hb; unfold L2.ers at hb; rw[HI rfl] at hb; cases hb
     rw[cy nb];exact s2 _ _ (sE _ _ hb)
   have hOb:hV K t.bR (ers x H) (ers x H2) fl fns:=λa xs o ha=>sy (hOf a xs o (sE _ _ ha)) (λb u hb hn=>by
     by_cases z:b=a
     . rw[z,aI] at hb ⊢; exact hb
     . rw[aJ z] at hb ⊢;have nb:b≠x:=λz=>by rw[z,hx2] at hb; cases hb; exact hn _ _ _ rfl
       rw[cy nb];exact hb) (λu hu=>by
     by_cases z:fl=a
     . rw[z,aI] at hu ⊢; exact hu
     . rw[aJ z] at hu ⊢;rw[cy nxf.symm]; exact hu)
   have hFb:F2.FlowsAt K t.bR (ers x H2) fl fns:=sy hFl (λb o hb hn=>by
     have nb:b≠x:=λz=>by rw[z,hx2] at hb; cases hb; exact hn _ _ _ rfl
     rw[cy nb];exact hb) (λo ho=>by rw[cy nxf.symm]; exact ho)
   show#[5,x,17,hx2,T.aq.cl,T.ez,#[],cM,λst hst=>#[5,x,17,aB.new hst _ _ aI,T.aq.cl,T.dX,Ib (df _ _ _ 0 (Gw 0)) #[],5,x,17,aI,T.aq.cl,T.iK,Ib (df _ _ _ 1 (df _ _ _ 0 (Gw 0))) #[],cM,λsd hsd=>#[5,x,17,aB.new hsd _ _ aI,T.aq.cl,T.iM,Ib (df _ _ _ 2 (df _ _ _ 1 (df _ _ _ 0 (Gw 0)))) #[],λct hct=>#[5,x,17,aB.new hct _ _ aI,T.aq.cl,T.iJ,Ib (df _ _ _ 3 (df _ _ _ 2 (df _ _ _ 1 (df _ _ _ 0 (Gw 0))))) #[],5,x,17,aI,T.aq.cl,T.iL,Ib (df _ _ _ 4 (df _ _ _ 3 (df _ _ _ 2 (df _ _ _ 1 (df _ _ _ 0 (Gw 0)))))) #[],?_]]]];have nst:st≠x:=λz=>by rw[z,aI] at hst; cases hst
   have hst2:H2 st=none:=by rwa [aJ nst] at hst
   have nsd:sd≠x:=λz=>by rw[z,aI] at hsd; cases hsd
   rw[aJ nsd,aJ nsd] at hsd;have nss:sd≠st:=λz=>by rw[z,aI] at hsd; cases hsd
   have hsd2:H2 sd=none:=by rwa [aJ nss,aJ nsd] at hsd
   have nct:ct≠x:=λz=>by rw[z,aI] at hct; cases hct
   rw[aJ nct] at hct;have ncd:ct≠sd:=λz=>by rw[z,aI] at hct; cases hct
   rw[aJ ncd,aJ nct,aJ nct] at hct;have ncs:ct≠st:=λz=>by rw[z,aI] at hct; cases hct
   have hct2:H2 ct=none:=by rwa [aJ ncs,aJ nct] at hct
   have hb0:∀{b:Kg},H2 b=none->ers x H2 b=none:=λ{b} hb=>by
     unfold L2.ers;split
     . rfl
     . exact hb
   have fin:∀b o,ers x H2 b=⇑o->b≠x/\b≠st/\b≠sd/\b≠ct/\H2 b=⇑o:=λb o hb=>by
     unfold L2.ers at hb;split at hb
     . cases hb
     . rename_i nb
       show#[nb,(λz=>by rw[z,hst2] at hb; cases hb),(λz=>by rw[z,hsd2] at hb; cases hb),(λz=>by rw[z,hct2] at hb; cases hb),hb]
   refine q (ers x H2) #[x,dx,st,sd,ct,fl] _ rfl sb #[λb o hb=>?_,aI,?_,?_,?_,(λf hf=>by cases hf),JS,JS,nss.symm,(λf hf=>by cases hf),#[ncs,ncd,nct],(λf hf=>by cases hf),?_,hb0 hst2,hb0 hsd2,hb0 hct2,(λf hf=>by cases hf)] hFb hOb
   . let#[n1,n2,n3,n4,e]:=fin b o hb;rw[aJ n1,aJ n1,aJ n4,aJ n1,aJ n3,aJ n1,aJ n1,aJ n2,aJ n1];exact e
   . show upd _ x _ st=_;rw[aJ nst,aJ nst,aJ ncs.symm,aJ nst,aJ nss.symm,aJ nst,aJ nst,aI];rfl
   . show upd _ x _ sd=_;rw[aJ nsd,aJ nsd,aJ ncd.symm,aJ nsd,aI]
   . show upd _ x _ ct=_;rw[aJ nct,aJ nct,aI]
   . show ers x H2 x=none;unfold L2.ers;rw[HI rfl]
def C7:FnScope ["self"] ["self"] (ac lR):=by walk_at "s"
def mw (T:Txt K mg t):FnOk P w K mg base CX0 1 t.vS t.wy ["self"] (BG K t):=by
 refine T.fZ.F.ok C7 (λvs H Q E h=>?_) (λcdv A outer s H vs Q E hr h=>?_)
 . let#[_,_,_,_,_,_,rfl,_]:=h;rfl
 . let#[Hb,w,fs,oc,sent,cn,rfl,h,q]:=h;show#[_,(aK (@aX _ _ _ _ (dA b7 (bY gU 0x1 T.b_len cL ((bS (pv 0) 0x1)>=>aH)) aF (aY _))) aj),?_];show#[5,w.a,33,h.o,T.aq.cl,T.dX,rfl,w.st,5,.inl (aG.of h.st),rfl,vq (HY V.bl ?_) q];rw[Ip,Ie,Ie];cases fs with
   | nil=>show#[λ_=>rfl,λ_=>rfl]
   | cons f r=>show#[(λz=>by have:=V.int.inj z; simp at this; lia),λz=>by cases z]
def Ba:FnScope ["self"] ["self"] (ac lw):=by walk_at "s"
def rK (T:Txt K mg t):FnOk P w K mg base CX0 1 t.vP t.wv ["self"] (zf K t):=by
 refine T.kI.F.ok Ba (λvs H Q E h=>?_) (λcdv A outer s H vs Q E hr h=>?_)
 . let#[_,_,_,_,_,_,rfl,_]:=h;rfl
 . let#[Hb,w,fs,oc,sent,cn,rfl,h,q]:=h;show#[_,(aK (@aX _ _ _ _ (bS (pv 0) 0x1)) aj),?_];show#[5,w.a,33,h.o,T.aq.cl,T.iK,rfl,q]
def E2:FnScope ["self"] ["self"] (ac kt):=by walk_at "s"
def BS (T:Txt K mg t):FnOk P w K mg base CX0 1 t.va t.xC ["self"] (BE K t):=by
 refine T.iF.F.ok E2 (λvs H Q E h=>?_) (λcdv A outer s H vs Q E hr h=>?_)
 . let#[_,_,_,_,_,_,rfl,_]:=h;rfl
 . let#[Hb,w,fs,oc,sent,cn,rfl,h,q]:=h;show#[_,(aK (@aX _ _ _ _ (cc gf 0x1 T.b_list fT ((bS (pv 0) 0x1)>=>aH))) aj),?_];show#[5,w.a,33,h.o,T.aq.cl,T.iM,rfl,w.sd,5,.inl (aG.of h.sd),q]
def Cv:FnScope ["self","record","name"] ["self","record","name"] (ac lY):=by walk_at "s"
def uF (T:Txt K mg t):FnOk P w K mg base CX0 1 t.vT t.wz ["self","record","name"] (AZ K t):=by
 refine T.kJ.F.ok Cv (λvs H Q E h=>?_) (λcdv A outer s H vs Q E hr h=>?_)
 . let#[_,_,_,_,_,_,_,_,rfl,_]:=h;rfl
 . let#[Hb,w,fs,oc,sent,cn,i,n,rfl,h,q]:=h;show#[_,(aK (@aX _ _ _ _ (kr (bA hr.units) (bS (pv 0) 0x1) (bQ (pv 1>=>pv 2>=>aH)) aF #[31])) aj),?_];show#[5,w.a,33,h.o,T.aq.cl,T.iJ,rfl,w.ct,rfl,.inr #[_,.inl h.ct],21,bE,λp hp=>#[_,cX.t (k:=fk i n) (aB.new hp _ _ h.ct) aI,q _ (aB.new hp)]]
def zS:FnScope ["self","frame"] ["self","frame"] (ac mQ):=by walk_at "s"
def qI (T:Txt K mg t):FnOk P w K mg base CX0 1 t.vF t.wg ["self","frame"] (Cf K t):=by
 refine T.kF.F.ok zS (λvs H Q E h=>?_) (λcdv A outer s H vs Q E hr h=>?_)
 . let#[_,_,rfl,_]:=h;rfl
 . let#[x,f,rfl,h,q]:=h;show#[_,(aK (@aX _ _ _ _ (bI ((bQ ((bS (pv 1) 0x1)>=>(bS (pv 1) 0x1)>=>aH))>=>aH))) aj),?_];show#[5,f.a,33,h.o,T.cP.cl,T.gd,13,f.a,33,h.o,T.cP.cl,T.fb,rfl,bE,λtp htp=>#[d6,λl hl=>?_]];have ne:l≠tp:=λz=>by rw[z,aI] at hl; cases hl
   exact q tp l htp (by rwa [aJ ne] at hl) ne
def oK:FnScope ["self","found","frame"] ["self"] (ac jl):=by walk_at "s"
def rC (T:Txt K mg t):FnOk P w K mg base CX0 2 t.vU t.x5 ["self"] (F3 K t):=by
 have Qg:=qI (P:=P) (w:=w) (base:=base) T;refine T.kK.F.ok oK (λvs H Q E h=>?_) (λcdv A outer s H vs Q E hr h=>?_)
 . let#[_,_,_,_,_,_,rfl,_]:=h;rfl
 . skip
   refine lx ?_;intro XX;refine(let W2:TS:=_; have hW2:aV XX ((aU jl).drop 2) W2:=(~~~(pv 1)); ?_);let#[Hb,w,fs,oc,sent,cn,rfl,h,hl,q]:=h;show#[_,(aK (@aa _ _ 1 _ _ _ _ oK.nd rfl 0x3 (bI aH) 0x1 0x5) (aK (cG PassesOwn.never rfl (di (bS (pv 0) 0x1)) (au (i:=2) oK.nd rfl 0x3) (@aO _ _ _ (@bK _ _ _ _ (br HK JO JP oO (pv 1) ((bt (pv 0) T.aq.cl T.kF.m Qg (hr*>#[]) T.kF.b .nil bN (pv 2>=>aH))>=>aH)) 0x1))) hW2)),?_];show#[cM,λl hl0=>?_];generalize e:upd H l _=H1;have ⟨s1,e1⟩:=nw e hl0;have h1:=h.grow s1;show#[5,w.a,33,h1.o,T.aq.cl,T.dX,rfl,w.st,rfl,#[_,aG.of h1.st],(let Jv1:Nat->St->Hp->Prop:=λi σ H2=>∃(tps:List Kg) (v2:Kd V),σ=[⇑↥w.a,⇑↥l,v2]/\aB H H2/\H2 l=⇑(.lst (tps.map V.ref))/\tps.length=i/\∀(k:Nat) f tp,fs[k]?=⇑f->tps[k]?=⇑tp->H tp=none/\tp≠l/\H2 tp=⇑(gV f); gX (xs:=fs.map λf=>V.ref f.a) Jv1 #[[],5,s1,e1,rfl,λk f tp _ h=>by simp at h] ?_ ?_ ?_)]
   . rintro i σ H2 hi ⟨tps,v2,rfl,s2,_⟩;exact aG.of (s2 _ _ h.st)
   . rintro i x σ H2 hx ⟨tps,v2,rfl,s2,e2,hlen,hat⟩;let#[f,hf,hfm,rfl]:=cb hx;have h2:=h.grow s2;have hF:=h2.fr f hfm;have hi:=(Gq.mp hf).1;show#[5,.inl #[6,aG.of e2],5,w.a,9,h2.o,13,↥w.a,f,rfl,hF,λtp l2 htp hl2 ne=>?_];have sA:=aB.new (o:=gV f) htp;have hl2':upd H2 tp (gV f) l2=none:=by rw[aJ ne]; exact hl2
     have sB:=aB.new (o:=.lst [↥tp]) hl2';have ntp:tp≠l:=λz=>by rw[z,e2] at htp; cases htp
     show#[l,l2,tps.map V.ref,[↥tp],7,sB _ _ (sA _ _ e2),aI,(by rw[Go,hlen]; show i+1<=sizeLine; exact IE (ay ∅)),tps++[tp],5,((s2\sA).trans sB).upd hl0,?_,by rw[Gv,hlen]; rfl,λk g tq hg hq=>?_]
     . rw[Gy]; exact aI
     . rcases Hk k tps.length with hk|hk
       . rw[IB hk] at hq;let#[a1,a2,a3]:=hat k g tq hg hq;show#[a1,a2,by rw[aJ a2]; exact sB _ _ (sA _ _ a3)]
       . rw[II hk] at hq;have hk0:k - tps.length=0:=by
           have:=(Gq.mp hq).1;simp at this
           lia
         rw[hk0] at hq;cases hq;have hki:k=i:=by lia
         rw[hki,hf] at hg;cases hg;show#[s2.free htp,ntp,?_];rw[aJ ntp];exact sB _ _ aI
   . rintro σ H2 ⟨tps,v2,rfl,s2,e2,hlen,hat⟩;rw[Go] at hlen;show#[5,q l H2 tps hl0 s2 e2 hlen hat]
def BU:FnScope ["self","level"] ["self","level"] (ac kL):=by walk_at "s"
def qB (T:Txt K mg t):FnOk P w K mg base CX0 2 t.vL t.wq ["self","level"] (C6 K t):=by
 have Qg:=qI (P:=P) (w:=w) (base:=base) T;refine T.kH.F.ok BU (λvs H Q E h=>?_) (λcdv A outer s H vs Q E hr h=>?_)
 . let#[_,_,_,_,_,_,_,_,rfl,_]:=h;rfl
 . let#[Hb,w,fs,oc,sent,cn,i,f,rfl,h,hf,q]:=h;show#[_,(aK (ah (@PW.pt _ _ _ (fV (bL g9 (pv 1) aF (aY _)) (gD (bL Ff (pv 1) (bY gU 0x1 T.b_len cL ((bS (pv 0) 0x1)>=>aH)) (aY _))))) (~~~du) aj) (~~~(aM dg (bt (pv 0) T.aq.cl T.kF.m Qg (hr*>#[]) T.kF.b .nil bN ((aM dg (bS (pv 0) 0x1) (pv 1) 0x0)>=>aH)) aF 0x0))),?_];have hF:=h.fr f (He hf);have hi:=(Gq.mp hf).1;show#[333,ai (λz=>by have:=bT z; lia) #[21,w.a,33,h.o,T.aq.cl,T.dX,rfl,w.st,5,.inl (aG.of h.st),77,ai (λz=>by have:=bT z; rw[Go] at this; lia) ?_]];show#[5,w.a,9,h.o,13,w.a,33,h.o,T.aq.cl,T.dX,13,w.st,35,aG.of h.st,jo ∅ (by rw[Hm]; exact hf),↥w.a,f,rfl,hF,λtp l htp hl ne=>#[l,35,aG.of aI,aP,?_]];have s1:=aB.new (o:=gV f) htp;have hl':upd H tp (gV f) l=none:=by rw[aJ ne]; exact hl
   exact q tp _ htp (s1\(aB.new hl')) (aB.new hl' _ _ aI)
def AK:FnScope ["self","level"] ["self","level"] (ac kW):=by walk_at "s"
def Cb (T:Txt K mg t):FnOk P w K mg base CX0 3 t.vQ t.ww ["self","level"] (FN K t):=by
 have Qh:=qB (P:=P) (w:=w) (base:=base) T;refine T.pA.F.ok AK (λvs H Q E h=>?_) (λcdv A outer s H vs Q E hr h=>?_)
 . let#[_,_,_,_,_,_,_,rfl,_]:=h;rfl
 . let#[Hb,w,fs,oc,sent,cn,i,rfl,h,hi,q]:=h;show#[_,(aK (ah (oY (uo (bt (pv 0) T.aq.cl T.kH.m Qh (hr*>#[]) T.kH.b .nil bN (pv 1>=>aH)))) (@aO _ _ _ nS) aj) aj),?_];have hf:fs[i]?=some fs[i]:=HN hi;show#[5,w.a,9,h.o,13,Hb,w,fs,oc,sent,cn,i,fs[i],rfl,h,hf,λtp H1 htp s1 e1=>#[5,ai 0xA (q H1 s1)]]
def DE:FnScope ["self","level"] ["self","level"] (ac lC):=by walk_at "s"
def C4 (T:Txt K mg t):FnOk P w K mg base CX0 3 t.vX t.x9 ["self","level"] (zx K t):=by
 have Qh:=qB (P:=P) (w:=w) (base:=base) T;refine T.pE.F.ok DE (λvs H Q E h=>?_) (λcdv A outer s H vs Q E hr h=>?_)
 . let#[_,_,_,_,_,_,_,_,_,_,rfl,_]:=h;rfl
 . let#[Hb,w,fs,oc,sent,cn,i,f,fns,F,rfl,h,hf,hFl,hF,hn,q]:=h;show#[_,(aK (@aX _ _ _ _ (kr (bA hr.units) (bS (bS (pv 0) 0x1) 0x1) (aM ak (bt (pv 0) T.aq.cl T.kH.m Qh (hr*>#[]) T.kH.b .nil bN (pv 1>=>aH)) aF 0x0) (bQ aH) #[31])) aj),?_];have hFl:=hFl*>h.b;obtain⟨nl,⟨dx,gs,d,kvs,e1,e2,e3,e4⟩,e5⟩:=uK hFl hF;rw[hn] at e4;show#[5,w.a,33,h.o,T.aq.cl,T.ez,rfl,w.fl,33,e1,T.d7.cl,T.gc,e2,d,rfl,.inl #[_,.inl e3],5,w.a,9,h.o,13,Hb,w,fs,oc,sent,cn,i,f,rfl,h,hf,λtp H1 htp s1 t1=>#[tp,35,aN.of t1,aP,cM,λte hte=>#[_,ck (aB.new hte _ _ (s1 _ _ e3)) e4,?_]]];exact q nl _ (s1\(aB.new hte)) (aG.of (aB.new hte _ _ (s1 _ _ e5)))
def BH:FnScope ["self","level","name"] ["self","level","name"] (ac ky):=by walk_at "s"
def GP (T:Txt K mg t):FnOk P w K mg base CX0 4 t.vR t.wx ["self","level","name"] (B' K t):=by
 have QE:=Cb (P:=P) (w:=w) (base:=base) T;have QF:=C4 (P:=P) (w:=w) (base:=base) T;refine T.pB.F.ok BH (λvs H Q E h=>?_) (λcdv A outer s H vs Q E hr h=>?_)
 . let#[_,_,_,_,_,_,_,_,_,_,_,rfl,_]:=h;rfl
 . let#[Hb,w,fs,oc,sent,cn,i,f,n,fns,F,rfl,h,hf,hFl,hF,hn,hm,q]:=h;show#[_,(aK (@bK _ _ _ _ (bt (pv 0) T.aq.cl T.pA.m QE (hr*>#[]) T.pA.b .nil bN (pv 1>=>aH)) 0x1) (@aO _ _ _ (ah (bL oN (pv 2) (bt (pv 0) T.aq.cl T.pE.m QF (hr*>#[]) T.pE.b .nil bN (pv 1>=>aH)) (by with_unfolding_all rfl)) (@aO _ _ _ nS) aj))),?_];have hi:=(Gq.mp hf).1;show#[5,w.a,9,h.o,13,Hb,w,fs,oc,sent,cn,i,rfl,h,hi,λH1 s1=>?_];have h1:=h.grow s1;have hFl1:=hFl*>(cH (H2:=H1) h.b);show#[21,w.a,9,h1.o,26,w,fs,oc,sent,cn,i,f,fns,F,rfl,h1,hf,hFl1,hF,hn,λnl H2 s2 e2=>#[nl,5,.inl e2,rfl,uj _,5,ai ?_ (q H2 (s1\s2))]];rw[ze hm];decide
def BJ:FnScope ["self","level","name"] ["self","level","name"] (ac mC):=by walk_at "s"
def De (T:Txt K mg t):FnOk P w K mg base CX0 1 t.vM t.wr ["self","level","name"] (zX K t):=by
 refine T.oz.F.ok BJ (λvs H Q E h=>?_) (λcdv A outer s H vs Q E hr h=>?_)
 . let#[_,_,_,_,_,_,_,_,_,_,rfl,_]:=h;rfl
 . let#[Hb,w,fs,oc,sent,cn,i,f,n,v,rfl,h,hf,hv,q]:=h;show#[_,(aK (@aX _ _ _ _ (cC (bA hr.units) (bS (aM dg (bS (pv 0) 0x1) (pv 1) 0x0) 0x1) (pv 2) 0x0)) aj),?_];have hF:=h.fr f (He hf);show#[5,w.a,33,h.o,T.aq.cl,T.dX,13,w.st,35,aG.of h.st,jo ∅ (by rw[Hm]; exact hf),f.a,33,hF.o,T.cP.cl,T.eQ,13,f.nd,5,(by have:=cX.k (k:=0xC) hF.n; rw[hv] at this; exact this),q]
def Dk:FnScope ["self","level","name"] ["self","level","name"] (ac kZ):=by walk_at "s"
def Ee (T:Txt K mg t):FnOk P w K mg base CX0 5 t.vc t.xE ["self","level","name"] (Al K t):=by
 have QG:=GP (P:=P) (w:=w) (base:=base) T;have QH:=De (P:=P) (w:=w) (base:=base) T;refine T.pI.F.ok Dk (λvs H Q E h=>?_) (λcdv A outer s H vs Q E hr h=>?_)
 . let#[_,_,_,_,_,_,_,_,_,_,_,_,rfl,_]:=h;rfl
 . let#[Hb,w,fs,oc,sent,cn,i,f,n,v,fns,F,rfl,h,hf,hFl,hF,hn,hm,hv,q]:=h;show#[_,(aK (@bK _ _ _ _ (bt (pv 0) T.aq.cl T.pB.m QG (hr*>#[]) T.pB.b .nil bN (pv 1>=>pv 2>=>aH)) 0x1) (~~~(bt (pv 0) T.aq.cl T.oz.m QH (hr*>#[]) T.oz.b .nil bN (pv 1>=>pv 2>=>aH)))),?_];show#[5,w.a,9,h.o,53,Hb,w,fs,oc,sent,cn,i,f,n,fns,F,rfl,h,hf,hFl,hF,hn,hm,λH1 s1=>?_];have h1:=h.grow s1;show#[5,w.a,9,h1.o,106,w,fs,oc,sent,cn,i,f,n,v,rfl,h1,hf,hv,q H1 s1]
def Dl:FnScope ["self","frame"] ["self","frame"] (ac lE):=by walk_at "s"
def qg (T:Txt K mg t):FnOk P w K mg base CX0 1 t.vK t.wo ["self","frame"] (Cy K t):=by
 refine T.kG.F.ok Dl (λvs H Q E h=>?_) (λcdv A outer s H vs Q E hr h=>?_)
 . let#[_,_,_,_,_,_,_,_,_,_,rfl,_]:=h;rfl
 . let#[Hb,w,fs,oc,sent,cn,f,fns,F,r,rfl,h,hf,hFl,hF,hn,hr1,q]:=h;show#[_,(aK (@aX _ _ _ _ (aM ak (cC (bA hr.units) (bS (bS (pv 0) 0x1) 0x1) (bS (pv 1) 0x1) 0x0) (bS (pv 1) 0x1) 0x0)) aj),?_];have hf1:=h.fr f hf;have hFl:=hFl*>h.b;let#[dx,gs,d,kvs,e1,e2,e3,e4]:=A' hFl hF;rw[hn] at e4;show#[5,w.a,33,h.o,T.aq.cl,T.ez,rfl,w.fl,33,e1,T.d7.cl,T.iH,e2,5,f.a,33,hf1.o,T.cP.cl,T.gd,rfl,d,5,ck e3 e4,5,f.a,33,hf1.o,T.cP.cl,T.fb,rfl,F.ra,35,(hFl.all F hF).rw_,jo ∅ (by rw[Hm]; exact hr1),q]
def FP:FnScope ["self","atom"] ["self","atom"] (ac lp):=by walk_at "s"
def oM (T:Txt K mg t):FnOk P w K mg base CX0 1 t.vD t.wd ["self","atom"] (DF K t):=by
 refine T.cx.F.ok FP (λvs H Q E h=>?_) (λcdv A outer s H vs Q E hr h=>?_)
 . let#[_,_,_,rfl,_]:=h;rfl
 . let#[f,v,y,rfl,h,hv,q]:=h;show#[_,(aK (@aX _ _ _ _ (@iW _ _ _ _ _ _ _ _ (nI (bY gF 0x1 T.b_isinstance gZ (pv 1>=>(gM (v:=V.ty "str") rfl T.b_str ja rfl)>=>aH))) (cC (bA hr.units) (bS (pv 0) 0x1) (pv 1) 0x0) (pv 1))) aj),?_];cases v with
   | str n=>show#[10,"str",_,true,rfl,.str _,13,gw #[5,f.a,33,h.o,T.cP.cl,T.eQ,13,f.nd,5,(by have:=cX.k (k:=0xC) h.n; rw[show aZ f.kvs 0xC=⇑y from hv] at this; exact this),q]]
   | int i =>
     cases hv;show#[10,"str",_,false,rfl,.int _,13,gB #[5,q]]
   | _=>cases hv
def zg:FnScope ["self","frame","row"] ["self","frame","row"] (ac iT):=by walk_at "s"
def Et (T:Txt K mg t):FnOk P w K mg base CX0 2 t.vN t.wt ["self","frame","row"] (F' K t):=by
 have QI:=Au (P:=P) (w:=w) (base:=base) T;have Qa:=oM (P:=P) (w:=w) (base:=base) T;have Qi:=uF (P:=P) (w:=w) (base:=base) T;refine T.p5.F.ok zg (λvs H Q E h=>?_) (λcdv A outer s H vs Q E hr h=>?_)
 . let#[_,_,_,_,_,_,_,_,_,_,_,rfl,_]:=h;rfl
 . skip
   refine lx ?_;intro XX;refine(let W2:TS:=_; have hW2:aV XX ((aU iT).drop 2) W2:=(~~~(bt (pv 1) T.cP.cl T.cx.m Qa (hr*>#[]) T.cx.b .nil bN ((aM ak (pv 2) aF 0x0)>=>aH))); ?_);refine(let W1:TS:=_; have hW1:aV XX ((aU iT).drop 1) W1:=(aK (ah (bL b7 (aM ak (pv 2) aF 0x0) aT (aY _)) (~~~(b8 T.value QI (hr*>#[]) ((aM ak (pv 2) aF 0x0)>=>(bt (pv 1) T.cP.cl T.cx.m Qa (hr*>#[]) T.cx.b .nil bN ((aM ak (pv 2) aF 0x0)>=>aH))>=>(bt (pv 1) T.cP.cl T.cx.m Qa (hr*>#[]) T.cx.b .nil bN ((aM ak (pv 2) aF 0x0)>=>aH))>=>aH))) aj) hW2); ?_);let#[Hb,w,fs,oc,sent,cn,f,r,rg,x0,v,rfl,h,hr1,hk,hg,q]:=h;show#[_,(aK (ah (bL b7 (aM ak (pv 2) aF 0x0) aT (aY _)) (~~~(bt (pv 0) T.aq.cl T.kJ.m Qi (hr*>#[]) T.kJ.b .nil bN ((bt (pv 1) T.cP.cl T.cx.m Qa (hr*>#[]) T.cx.b .nil bN ((aM ak (pv 2) aF 0x0)>=>aH))>=>(aM ak (pv 2) aF 0x0)>=>aH))) aj) hW1),?_];have hF:=h.fr f (HS _ (HG.mpr rfl));rcases hk with⟨x,a,rfl⟩|⟨x,s,a,b,rfl⟩|⟨x,a,fd,rfl⟩
   . let#[_,hu]:=qJ hg;show#[5,r,35,hr1,aP,13,iN #[5,r,35,hr1,aP,13,iN #[5,f.a,9,hF.o,13,r,35,hr1,rfl,f,a,v,rfl,hF,hu,q H (aB.refl _)]]]
   . let#[_,i,j,ea,eb,hb,rfl]:=uG hg;show#[5,r,35,hr1,aP,13,iN #[5,r,35,hr1,aP,13,iP #[5,r,35,hr1,13,f.a,9,hF.o,13,r,35,hr1,rfl,f,a,5,hF,ea,5,f.a,9,hF.o,13,r,35,hr1,rfl,f,b,5,hF,eb,s,i,j,rfl,hb.1,hb.2.1,hb.2.2.1,hb.2.2.2,q H (aB.refl _)]]]
   . let#[_,i,ea,rfl]:=sR hg;show#[5,r,35,hr1,aP,13,iP #[5,w.a,9,h.o,13,f.a,9,hF.o,13,r,35,hr1,rfl,f,a,5,hF,ea,5,r,35,hr1,rfl,Hb,w,fs++[f],oc,sent,cn,i,fd,rfl,h,λH1 s1=>q H1 s1]]
def EJ:FnScope ["self","number"] ["self","number"] (ac lI):=by walk_at "s"
def DU (T:Txt K mg t):FnOk P w K mg base CX0 1 t.vZ t.xB ["self","number"] (EE K t):=by
 refine T.pG.F.ok EJ (λvs H Q E h=>?_) (λcdv A outer s H vs Q E hr h=>?_)
 . let#[_,_,_,_,_,_,_,rfl,_]:=h;rfl
 . let#[Hb,w,fs,oc,sent,cn,v,rfl,h,hl,q]:=h;show#[_,(aK (@bK _ _ _ _ (br HK HP HQ eX (bS (pv 0) 0x1) (pv 1>=>aH)) 0x1) (~~~(bQ (aT>=>pv 1>=>aH)))),?_];have h1:=h.send (v:=v);show#[5,w.a,33,h.o,T.aq.cl,T.iM,rfl,.inl #[6,aG.of h.sd],5,w.sd,sent,11,h.sd,ay hl,5,bE,λtp htp=>?_];exact q _ _ tp (cH h1.b) (h1.grow (aB.new htp)) (eE htp aI)
def Dy:FnScope ["self","record","name","number"] ["self","record","name","number"] (ac lr):=by walk_at "s"
def CC (T:Txt K mg t):FnOk P w K mg base CX0 1 t.vY t.xA ["self","record","name","number"] (Fn K t):=by
 refine T.pF.F.ok Dy (λvs H Q E h=>?_) (λcdv A outer s H vs Q E hr h=>?_)
 . let#[_,_,_,_,_,_,_,_,_,rfl,_]:=h;rfl
 . let#[Hb,w,fs,oc,sent,cn,i,n,v,rfl,h,hl,q]:=h;show#[_,(aK (cQ (bA hr.units) (bS (pv 0) 0x1) (bQ (pv 1>=>pv 2>=>aH)) (pv 3) 0x1) (~~~(bQ (aT>=>pv 1>=>pv 2>=>pv 3>=>aH)))),?_];show#[21,w.a,33,h.o,T.aq.cl,T.iJ,53,bE,λp hp=>?_];have s1:=aB.new (o:=.tup [V.int i,V.str n]) hp;have h1:=h.grow s1;have g1:=cH (H2:=upd H p (.tup [V.int i,V.str n])) h.b;have e1:=aI (H:=H) (a:=p) (o:=.tup [V.int i,V.str n]);generalize upd H p (.tup [V.int i,V.str n])=H1 at s1 h1 g1 e1 ⊢;show#[w.ct,5,bo.t (k:=fk i n) h1.ct e1 (ay hl),?_];have h2:=h1.cont (kv':=aQ cn.kv (fk i n) v);show#[85,gO,λtp htp=>?_];exact q _ _ tp (g1\(cH h2.b)) (h2.grow (aB.new htp)) (eE htp aI)
def zb:FnScope ["self"] ["self"] (ac lL):=by walk_at "s"
def Ez (T:Txt K mg t):FnOk P w K mg base CX0 1 t.vW t.x8 ["self"] (DR K t):=by
 refine T.pD.F.ok zb (λvs H Q E h=>?_) (λcdv A outer s H vs Q E hr h=>?_)
 . let#[_,_,_,_,_,_,rfl,_]:=h;rfl
 . let#[Hb,w,fs,oc,sent,cn,rfl,h,q]:=h;show#[_,(aK (C' (pv 0) aF Dm) (~~~(bQ (aT>=>(bS (pv 0) 0x1)>=>aH)))),?_];have h1:=h.recs (r:=cn.rc+1);show#[5,w.a,33,h.o,T.aq.cl,T.iL,204,h.o,(by show 6<1000; decide),?_];show#[5,w.a,33,h1.o,T.aq.cl,T.iL,rfl,bE,λtp htp=>?_];exact q _ _ tp (cH h1.b) (h1.grow (aB.new htp)) (eE htp aI)
def qd:FnScope ["self","frame","row","deed"] ["self","frame","row"] (ac iS):=by walk_at "s"
def CV (T:Txt K mg t):FnOk P w K mg base CX0 3 t.vG t.wj ["self","frame","row"] (DZ K t):=by
 have QJ:=Et (P:=P) (w:=w) (base:=base) T;have QK:=DU (P:=P) (w:=w) (base:=base) T;have QL:=CC (P:=P) (w:=w) (base:=base) T;have QM:=Ez (P:=P) (w:=w) (base:=base) T;have Qa:=oM (P:=P) (w:=w) (base:=base) T;refine T.ox.F.ok qd (λvs H Q E h=>?_) (λcdv A outer s H vs Q E hr h=>?_)
 . let#[_,_,_,_,_,_,_,_,_,rfl,_]:=h;rfl
 . skip
   refine lx ?_;intro XX;refine(let W4:TS:=_; have hW4:aV XX ((aU iS).drop 4) W4:=(~~~du); ?_);refine(let W2:TS:=_; have hW2:aV XX ((aU iS).drop 2) W2:=(aK (ah (bL b7 (aM ak (pv 2) aF 0x0) aT (aY _)) (aK (@aa _ _ 3 _ _ _ _ qd.nd rfl 0x3 (dn (pv 0) T.aq.cl T.pD.m QM (hr*>#[]) T.pD.b .nil bN) 0x1 0x5) (aK (cQ (bA hr.units) (bS (pv 1) 0x1) (aM ak (pv 2) aF 0x0) (aM ak (pv 3) aF 0x0) 0x1) (~~~(pv 3)))) aj) (aK (cQ (bA hr.units) (bS (pv 1) 0x1) (aM ak (pv 2) aF 0x0) (bt (pv 0) T.aq.cl T.p5.m QJ (hr*>#[]) T.p5.b .nil bN (pv 1>=>pv 2>=>aH)) 0x1) hW4)); ?_);let#[Hb,w,fs,oc,sent,cn,f,r,rg,rfl,h,hr0,hs,hk,q]:=h;show#[_,(aK (ah (bL b7 (aM ak (pv 2) aF 0x0) aT (aY _)) (~~~(bt (pv 0) T.aq.cl T.pG.m QK (hr*>#[]) T.pG.b .nil bN ((bt (pv 1) T.cP.cl T.cx.m Qa (hr*>#[]) T.cx.b .nil bN ((aM ak (pv 2) aF 0x0)>=>aH))>=>aH))) aj) (aK (ah (bL b7 (aM ak (pv 2) aF 0x0) aT (aY _)) (~~~(bt (pv 0) T.aq.cl T.pF.m QL (hr*>#[]) T.pF.b .nil bN ((bt (pv 1) T.cP.cl T.cx.m Qa (hr*>#[]) T.cx.b .nil bN ((aM ak (pv 2) aF 0x0)>=>aH))>=>(aM ak (pv 2) aF 0x0)>=>(bt (pv 1) T.cP.cl T.cx.m Qa (hr*>#[]) T.cx.b .nil bN ((aM ak (pv 2) aF 0x0)>=>aH))>=>aH))) aj) hW2)),?_];have hF:=h.fr f (HS _ (HG.mpr rfl));have hr1:=h.b<*hr0;cases rg with
   | out a =>
     let#[v,hv,q]:=q;show#[5,r,35,hr1,aP,13,iP #[5,w.a,9,h.o,13,f.a,9,hF.o,13,r,35,hr1,rfl,f,a,v,rfl,hF,hv,Hb,w,fs++[f],oc,sent,cn,v,rfl,h,hs,λHb2 H2 tp s1 h1 e1=>q Hb2 H2 tp s1 h1 e1]]
   | put a fd b =>
     let#[i,v,ha,hv,hl,q]:=q;show#[5,r,35,hr1,aP,13,iN #[5,r,35,hr1,aP,13,iP #[5,w.a,9,h.o,13,f.a,9,hF.o,13,r,35,hr1,rfl,f,a,5,hF,ha,5,r,35,hr1,13,f.a,9,hF.o,13,r,35,hr1,rfl,f,b,v,rfl,hF,hv,Hb,w,fs++[f],oc,sent,cn,i,fd,v,rfl,h,hl,λHb2 H2 tp s1 h1 e1=>q Hb2 H2 tp s1 h1 e1]]]
   | new x =>
     show#[5,r,35,hr1,aP,13,iN #[5,r,35,hr1,aP,13,iN #[5,r,35,hr1,aP,13,iP #[5,w.a,9,h.o,rfl,Hb,w,fs++[f],oc,sent,cn,rfl,h,λHb2 H2 tp s1 h1 e1=>?_]]]];have hF1:=h1.fr f (HS _ (HG.mpr rfl));have h2:=h1.name (ks:=aQ f.kvs (Sum.inr x:aE) (.int (cn.rc+1)));show#[5,tp,35,aN.of (h1.b _ _ e1),13,f.a,33,hF1.o,T.cP.cl,T.eQ,13,r,35,h1.b<*(s1<*hr0),rfl,f.nd,5,bo.k (k:=(Sum.inr x:aE)) hF1.n (ay hk),5,?_];exact q Hb2 _ tp s1 h2 e1
   | get x a fd =>
     let#[y,v,hg,q]:=q;have hx:(RG.get x a fd).items[1]?=⇑(.str y):=ou hg;show#[5,r,35,hr1,aP,13,iN #[5,r,35,hr1,aP,13,iN #[5,r,35,hr1,aP,13,iN #[5,w.a,9,h.o,53,Hb,w,fs,oc,sent,cn,f,r,_,y,v,rfl,h,hr1,.inr (.inr (#[17])),hg,λH1 s1=>?_]]]];have h1:=h.grow s1;have hF1:=h1.fr f (HS _ (HG.mpr rfl));show#[5,f.a,33,hF1.o,T.cP.cl,T.eQ,13,r,35,s1<*hr1,dO (j:=1) hx,f.nd,5,bo.k (k:=(Sum.inr y:aE)) hF1.n (ay hk),?_];exact q _ _ (cH h.b) h1.name
   | op x s a b =>
     let#[y,v,hg,q]:=q;have hx:(RG.op x s a b).items[1]?=⇑(.str y):=ou hg;show#[5,r,35,hr1,aP,13,iN #[5,r,35,hr1,aP,13,iN #[5,r,35,hr1,aP,13,iN #[5,w.a,9,h.o,53,Hb,w,fs,oc,sent,cn,f,r,_,y,v,rfl,h,hr1,.inr (.inl #[33]),hg,λH1 s1=>?_]]]];have h1:=h.grow s1;have hF1:=h1.fr f (HS _ (HG.mpr rfl));show#[5,f.a,33,hF1.o,T.cP.cl,T.eQ,13,r,35,s1<*hr1,dO (j:=1) hx,f.nd,5,bo.k (k:=(Sum.inr y:aE)) hF1.n (ay hk),?_];exact q _ _ (cH h.b) h1.name
   | copy x a =>
     let#[y,v,hg,q]:=q;have hx:(RG.copy x a).items[1]?=⇑(.str y):=ou hg;show#[5,r,35,hr1,aP,13,iN #[5,r,35,hr1,aP,13,iN #[5,r,35,hr1,aP,13,iN #[5,w.a,9,h.o,53,Hb,w,fs,oc,sent,cn,f,r,_,y,v,rfl,h,hr1,.inl #[9],hg,λH1 s1=>?_]]]];have h1:=h.grow s1;have hF1:=h1.fr f (HS _ (HG.mpr rfl));show#[5,f.a,33,hF1.o,T.cP.cl,T.eQ,13,r,35,s1<*hr1,dO (j:=1) hx,f.nd,5,bo.k (k:=(Sum.inr y:aE)) hF1.n (ay hk),?_];exact q _ _ (cH h.b) h1.name
   | back a=>exact q.elim
   | call x g p as=>exact q.elim
   | ifs a=>exact q.elim
   | whl a=>exact q.elim
def FY:FnScope ["self","frame","way"] ["self","frame","way"] (ac mX):=by walk_at "s"
def u9 (T:Txt K mg t):FnOk P w K mg base CX0 1 t.vI t.wm ["self","frame","way"] (EV K t):=by
 refine T.iE.F.ok FY (λvs H Q E h=>?_) (λcdv A outer s H vs Q E hr h=>?_)
 . let#[_,_,_,_,_,_,_,_,_,_,_,rfl,_]:=h;rfl
 . let#[Hb,w,fs,oc,sent,cn,f,fns,F,j,r,rfl,h,hFl,hF,hn,hk,hw,q]:=h;show#[_,(aK (dJ (pv 1) (aM ak (aM dg (cC (bA hr.units) (bS (bS (pv 0) 0x1) 0x1) (bS (pv 1) 0x1) 0x0) (bS (pv 1) 0x1) 0x0) (pv 2) 0x0) 0x1) aj),?_];have hf:=h.fr f (HS _ (HG.mpr rfl));have hFl:=hFl*>h.b;obtain⟨wl,tp,vs,l,⟨dx,gs,d,kvs,e1,e2,e3,e4⟩,e5,e6,e7,e8⟩:=AB hFl hF hk hw;rw[hn] at e4;show#[5,w.a,33,h.o,T.aq.cl,T.ez,rfl,w.fl,33,e1,T.d7.cl,T.iI,e2,5,f.a,33,hf.o,T.cP.cl,T.gd,rfl,d,5,ck e3 e4,5,f.a,33,hf.o,T.cP.cl,T.fb,rfl,wl,35,aG.of e5,dO e6,5,tp,35,aN.of e7,ym e8,5,f.a,17,hf.o,T.cP.cl,T.fb,(by show 3<1000; decide),?_];exact q _ (h.goto (r:=r))
def yz:FnScope ["self","function","named"] ["self","function","named"] (ac lj):=by walk_at "s"
def zB (T:Txt K mg t):FnOk P w K mg base CX0 1 t.vC t.wc ["self","function","named"] (BQ K t):=by
 refine T.uz.F.ok yz (λvs H Q E h=>?_) (λcdv A outer s H vs Q E hr h=>?_)
 . let#[_,_,_,_,rfl,_]:=h;rfl
 . let#[x,dx,nd,fn,rfl,hx,q]:=h;show#[_,(aK (dJ (pv 0) (pv 1) 0x1) (aK (dJ (pv 0) aF 0x1) (@aO _ _ _ (dJ (pv 0) (pv 2) 0x1)))),?_];show#[21,x,17,hx,T.cP.cl,T.gd,#[],5,x,17,aI,T.cP.cl,T.fb,zj _ _,21,x,17,aI,T.cP.cl,T.eQ,CY _ _ _ _,?_];rw[jf,jf];exact q
def kn:FnScope ["self","function","args","named","name","number"] ["self","function","args"] (ac iY):=by walk_at "s"
def uB (T:Txt K mg t):FnOk P w K mg base CX0 3 t.vE t.we ["self","function","args"] (FO K t):=by
 have QN:=zB (P:=P) (w:=w) (base:=base) T;refine T.kE.F.ok kn (λvs H Q E h=>?_) (λcdv A outer s H vs Q E hr h=>?_)
 . let#[_,_,_,_,_,_,_,_,_,_,rfl,_]:=h;rfl
 . skip
   refine lx ?_;intro XX;refine(let W2:TS:=_; have hW2:aV XX ((aU iY).drop 2) W2:=(@aO _ _ _ (@bK _ _ _ _ (br HK HP HQ eX (bS (pv 0) 0x1) ((nK T.cP T.uz QN (hr*>#[]) (pv 1>=>pv 3>=>aH))>=>aH)) 0x1)); ?_);refine(let W1:TS:=_; have hW1:aV XX ((aU iY).drop 1) W1:=(aK (cG PassesOwn.never rfl (rP true false rfl T.b_zip ((cC (bA hr.units) (bS (bS (pv 0) 0x1) 0x1) (pv 1) 0x0)>=>pv 2>=>aH)) (dR rfl (bV (au (i:=4) kn.nd rfl 0x3) (bV (au (i:=5) kn.nd rfl 0x3) dE))) (@aO _ _ _ (cQ (bA hr.units) (pv 3) (pv 4) (pv 5) 0x1))) hW2); ?_);let#[Hb,w,fs,oc,sent,cn,fns,F,ar,vals,rfl,h,hFl,hF,har,hv,hl,hnn,hps,q]:=h;show#[_,(aK (@aa _ _ 3 _ _ _ _ kn.nd rfl 0x3 (cc (uI rfl) 0x1 T.b_dict tG ((j4 (N':=["name"]) (js:=[none]) (by kernel_rfl) rfl (di (cC (bA hr.units) (bS (bS (pv 0) 0x1) 0x1) (pv 1) 0x0)) gH (λ_ _ _ _=>(au (i:=0) (show(["name"]:List Str).Nodup by decide +kernel) rfl 0x3 (.inr rfl))) (λ_ _ _ _=>gS) (λ_ _ _ _=>(bQ (pv 0>=>aF>=>aH))))>=>aH)) 0x1 0x5) hW1),?_];have hFlH:=hFl*>h.b;obtain⟨nl,⟨dx1,gs1,d1,kv1,a1,a2,a3,a4⟩,a5⟩:=uK hFlH hF;let#[dx2,gs2,d2,kv2,b1,b2,b3,b4]:=Cw hFlH hF;show#[5,w.a,33,h.o,T.aq.cl,T.ez,rfl,w.fl,33,a1,T.d7.cl,T.gc,a2,5,d1,5,ck a3 a4,nl,rfl,#[_,aG.of a5],λu hu=>km (K:=K) (λi Hq v=>∃y tp,(F2.nms F)[i]?=⇑y/\v=↥tp/\Hq tp=⇑(.tup [.str y,.int 0])) (λi v H1 H2 e z=>by let#[y,tp,z1,z2,z3]:=z; show#[y,tp,z1,z2,e _ _ z3]) (xs:=(F2.nms F).map V.str) (by rw[Go]; lia) (aG.of a5) hu ?_ ?_]
   . rintro i z H2 R' hz s2 ⟨acc,ha⟩ r2;let#[y,hy,hym,rfl]:=cb hz;show#[5,bE,λtp htp=>r2 _ _ (aB.new htp) #[y,tp,hy,rfl,?_]];rw[cy (λz=>by rw[z,ha] at htp; cases htp)];exact aI
   intro H3 vs s3 e3 lv tv;rw[Go] at lv;let#[ps,rfl,hps2]:=qq (K:=K) lv tv;show#[u,ps,(F2.nms F).map λn=>(0xC,V.int 0),rfl,aG.of e3,?_,by rw[Go]; lia,λd hd=>?_]
   . exact hps2.mono λa kv z=>kC<*z
   have d0:H d=none:=s3.free hd;have s4:=s3\(aB.new (o:=.dK (((F2.nms F).map λn=>(0xC,V.int 0)).foldl (λacc kv=>aQ acc kv.1 kv.2) [])) hd);have e4:=aI (H:=H3) (a:=d) (o:=.dK (((F2.nms F).map λn=>(0xC,V.int 0)).foldl (λacc kv=>aQ acc kv.1 kv.2) []));have k0l:(((F2.nms F).map λn=>(0xC,V.int 0)).foldl (λacc kv=>aQ acc kv.1 kv.2) []).length<=1000:=by
     refine Hf (hJ (λkv:aE×V=>kv) ((F2.nms F).map λn=>(0xC,V.int 0)) []) ?_;rw[Go];show 0+(F2.nms F).length<=1000
     lia
   have hbg:eI F vals=(F.ps.zip vals).foldl (λd p=>aQ d (Sum.inr p.1:aE) p.2) (((F2.nms F).map λn=>(0xC,V.int 0)).foldl (λacc kv=>aQ acc kv.1 kv.2) []):=rfl;generalize (((F2.nms F).map λn=>(0xC,V.int 0)).foldl (λacc kv=>aQ acc kv.1 kv.2) [])=k0 at s4 e4 k0l hbg ⊢;generalize upd H3 d (.dK k0)=H4 at s4 e4 ⊢;have h4:=h.grow s4;have hpa:aN K H F.pa (F.ps.map V.str):=(hFlH.all F hF).pr;have har1:aG K H ar vals:=h.b.seq har;show#[5,w.a,33,h4.o,T.aq.cl,T.ez,rfl,w.fl,33,s4 _ _ b1,T.d7.cl,T.iG,b2,5,d2,5,ck (s4 _ _ b3) b4,5,F.pa,ar,rfl,#[_,s4<*hpa],#[_,s4.seq har1],(let Jv1:Nat->St->Hp->Prop:=λi σ H'=>∃v4 v5:Kd V,σ=[⇑↥w.a,⇑(.str F.name),⇑↥ar,⇑↥d,v4,v5]/\aB H H'/\H' d=⇑(.dK (((F.ps.zip vals).take i).foldl (λd p=>aQ d (Sum.inr p.1:aE) p.2) k0)); r9 (b1:=true) (b2:=false) (xs:=F.ps.map V.str) (ys:=vals) Jv1 #[9,s4,e4] ?_ ?_ ?_)]
   . rintro i σ H' hi ⟨v4,v5,rfl,s5,e5⟩;show#[s5<*hpa,s5.seq har1]
   . rintro i x y σ H' b hx hy ⟨v4,v5,rfl,s5,e5⟩ hb;let#[n,hn,hnm,rfl]:=cb hx;have s6:=aB.new (o:=.tup [.str n,y]) hb;have nb:d≠b:=λz=>by rw[<- z,e5] at hb; cases hb
     have lz:(((F.ps.zip vals).take i).foldl (λd p=>aQ d (Sum.inr p.1:aE) p.2) k0).length<1000000:=by
       refine Ib (hJ (λp:Str×V=>((Sum.inr p.1:aE),p.2)) ((F.ps.zip vals).take i) k0) ?_;have l2:((F.ps.zip vals).take i).length<=1000:=by
         rw[Hl,J0]
         lia
       lia
     show#[b,5,aN.of aI,25813,d,5,bo.k (k:=0xC) (s6 _ _ e5) (ay lz),9,(s5\s6).upd d0,?_];rw[aI,Hz,IC];have hz:(F.ps.zip vals)[i]?=⇑(n,y):=Io.mpr #[hn,hy];rw[hz];rfl
   . rintro σ H' ⟨v4,v5,rfl,s5,e5⟩;rw[IZ (by rw[J0,Go]; exact Gw _),<- hbg] at e5;have h5:=h.grow s5;show#[5,w.a,33,h5.o,T.aq.cl,T.dX,rfl,.inl #[6,aG.of h5.st],21,λfa fdx hfa hfdx nfd=>#[fa,fdx,d,F.name,rfl,aI,rfl,?_]];have n1:∀{b:Kg} {o:HO},H' b=⇑o->b≠fa/\b≠fdx:=λhb=>#[(λz=>by rw[z,hfa] at hb; cases hb),(λz=>by rw[z,hfdx] at hb; cases hb)]
     have s6:aB H' (upd (upd (upd H' fdx (.own fa)) fa (.ins t.dW fdx [])) fa (.ins t.dW fdx (fF ⟨fa,fdx,d,F.name,0,[]⟩))):=λb o hb=>by rw[aJ (n1 hb).1,aJ (n1 hb).1,aJ (n1 hb).2];exact hb
     have hfr:FrAt t.dW (upd (upd (upd H' fdx (.own fa)) fa (.ins t.dW fdx [])) fa (.ins t.dW fdx (fF ⟨fa,fdx,d,F.name,0,[]⟩))) ⟨fa,fdx,d,F.name,0,eI F vals⟩:=#[aI,s6 _ _ e5]
     let#[p1,p2]:=h.push (s5\s6) (s5.free hfa) d0 hfr;rw[Gy] at p1;show#[w.st,19,s6 _ _ h5.st,ay (by rw[Go]; lia),?_];exact q _ _ _ p2 p1 rfl rfl rfl
def r6:FnScope ["self","number","caller"] ["self","number"] (ac ia):=by walk_at "s"
def Cm (T:Txt K mg t):FnOk P w K mg base CX0 2 t.vH t.wk ["self","number"] (Aw K t):=by
 have Qd:=u9 (P:=P) (w:=w) (base:=base) T;have Qj:=qg (P:=P) (w:=w) (base:=base) T;refine T.oy.F.ok r6 (λvs H Q E h=>?_) (λcdv A outer s H vs Q E hr h=>?_)
 . let#[_,_,_,_,_,_,_,_,rfl,_]:=h;rfl
 . skip
   refine lx ?_;intro XX;refine(let W1_2:TS:=_; have hW1_2:aV XX ((sB ((aU ia).getD 1 0xB)).drop 2) W1_2:=(@aO _ _ _ (@bK _ _ _ _ (bt (pv 0) T.aq.cl T.iE.m Qd (hr*>#[]) T.iE.b .nil bN (pv 2>=>aF>=>aH)) 0x1)); ?_);refine(let W1_1:TS:=_; have hW1_1:aV XX ((sB ((aU ia).getD 1 0xB)).drop 1) W1_1:=(aK (cQ (bA hr.units) (bS (pv 2) 0x1) (aM ak (bt (pv 0) T.aq.cl T.kG.m Qj (hr*>#[]) T.kG.b .nil bN (pv 2>=>aH)) aF 0x0) (pv 1) 0x1) hW1_2); ?_);let#[Hb,w,fs,oc,sent,cn,f,v,rfl,h,q]:=h;show#[_,(aK (@bK _ _ _ _ (i3 HK JC JD kh (bS (pv 0) 0x1)) 0x1) (@aO _ _ _ (ah (Bw (K:=K) rfl (bS (pv 0) 0x1) (by intro _; rfl)) (aK (@aa _ _ 2 _ _ _ _ r6.nd rfl 0x3 (aM dg (bS (pv 0) 0x1) (dG dD aF) 0x0) 0x1 0x5) hW1_1) (@aO _ _ _ (dJ (pv 0) (pv 1) 0x1))))),?_];have h1:=WAt.pop h;show#[5,w.a,33,h.o,T.aq.cl,T.dX,rfl,  .inl #[6,aG.of h.st],w.st,_,V.ref f.a,7,h.st,by simp,?_];rw[show((fs++[f]).map λf=>V.ref f.a).dropLast=fs.map λf=>V.ref f.a by rw[Gy]; exact Jx];rcases q with⟨rfl,q⟩|⟨fs0,g,fns,G,rw,its,x,r,rfl,hFl,hG,hn,hr1,hq,hx,hw,hk,q⟩
   . show#[5,w.a,33,h1.o,T.aq.cl,T.dX,rfl,false,.inl #[[],aG.of h1.st,rfl],ai Hd ?_];show#[21,w.a,17,h1.o,T.aq.cl,T.iK,(by show 6<1000; decide),q _ h1.out]
   . have hgm:g∈fs0++[g]:=HS _ (HG.mpr rfl);have hg:=h1.fr g hgm;have h2:=h1.name (ks:=aQ g.kvs (Sum.inr x:aE) v);have hqH:=h1.b<*hq;have hrow:g.row<G.rs.length:=(Gq.mp hr1).1;show#[5,w.a,33,h1.o,T.aq.cl,T.dX,rfl,true,.inl #[_,aG.of h1.st,by simp],ao rfl ?_];show#[5,w.a,33,h1.o,T.aq.cl,T.dX,13,w.st,35,aG.of h1.st,at_end _ _,?_];show#[21,g.a,33,hg.o,T.cP.cl,T.eQ,13,w.a,9,h1.o,13,Hb,w,fs0++[g],oc,sent,cn,g,fns,G,rw,rfl,h1,hgm,hFl,hG,hn,hr1,rw.r,35,hqH,dO (j:=1) hx,g.nd,5,bo.k (k:=(Sum.inr x:aE)) hg.n (ay hk),?_];show#[5,w.a,9,h2.o,13,Hb,w,fs0,oc,sent,cn,{ g with kvs:=aQ g.kvs (Sum.inr x:aE) v },fns,G,(0),r,rfl,h2,hFl,hG,hn,hrow,hw,λH3 h3=>q H3 h3]
def kS:FnScope ["self","frame","row","deed"] ["self"] (ac eo):=by walk_at "s"
def ES (T:Txt K mg t):FnOk P w K mg base CX0 4 t.vO t.wu ["self"] (tV K t):=by
 have Qj:=qg (P:=P) (w:=w) (base:=base) T;have QO:=CV (P:=P) (w:=w) (base:=base) T;have Qd:=u9 (P:=P) (w:=w) (base:=base) T;have Qk:=uB (P:=P) (w:=w) (base:=base) T;have QP:=Cm (P:=P) (w:=w) (base:=base) T;have Qa:=oM (P:=P) (w:=w) (base:=base) T;refine T.p7.F.ok kS (λvs H Q E h=>?_) (λcdv A outer s H vs Q E hr h=>?_)
 . let#[_,_,_,_,_,_,_,_,_,_,rfl,_]:=h;rfl
 . skip
   refine lx ?_;intro XX;refine(let W7:TS:=_; have hW7:aV XX ((aU eo).drop 7) W7:=(~~~(pv 3)); ?_);refine(let W6:TS:=_; have hW6:aV XX ((aU eo).drop 6) W6:=(aK (@bK _ _ _ _ (bt (pv 0) T.aq.cl T.iE.m Qd (hr*>#[]) T.iE.b .nil bN (pv 1>=>aF>=>aH)) 0x1) hW7); ?_);refine(let W5:TS:=_; have hW5:aV XX ((aU eo).drop 5) W5:=(aK (@aa _ _ 3 _ _ _ _ kS.nd rfl 0x3 (bt (pv 0) T.aq.cl T.ox.m QO (hr*>#[]) T.ox.b .nil bN (pv 1>=>pv 2>=>aH)) 0x1 0x5) hW6); ?_);refine(let W4:TS:=_; have hW4:aV XX ((aU eo).drop 4) W4:=(aK (ah (bL eS (aM ak (pv 2) aF 0x0) (bQ (aT>=>aT>=>aH)) (by with_unfolding_all rfl)) (aK (@bK _ _ _ _ (bt (pv 0) T.aq.cl T.iE.m Qd (hr*>#[]) T.iE.b .nil bN (pv 1>=>(@iW _ _ _ _ _ _ _ _ (bL mE (bt (pv 1) T.cP.cl T.cx.m Qa (hr*>#[]) T.cx.b .nil bN ((aM ak (pv 2) aF 0x0)>=>aH)) aF (aY _)) aF aF)>=>aH)) 0x1) (~~~du)) aj) hW5); ?_);refine(let W3:TS:=_; have hW3:aV XX ((aU eo).drop 3) W3:=(aK (ah (bL b7 (aM ak (pv 2) aF 0x0) aT (aY _)) (aK (@bK _ _ _ _ (bt (pv 0) T.aq.cl T.oy.m QP (hr*>#[]) T.oy.b .nil bN ((bt (pv 1) T.cP.cl T.cx.m Qa (hr*>#[]) T.cx.b .nil bN ((aM ak (pv 2) aF 0x0)>=>aH))>=>aH)) 0x1) (~~~du)) aj) hW4); ?_);refine(let W2:TS:=_; have hW2:aV XX ((aU eo).drop 2) W2:=(aK (ah (bL b7 (aM ak (pv 2) aF 0x0) aT (aY _)) (aK (@bK _ _ _ _ (bt (pv 0) T.aq.cl T.kE.m Qk (hr*>#[]) T.kE.b .nil bN ((aM ak (pv 2) aF 0x0)>=>(j4 (N':=["atom","frame"]) (js:=[none,some 1]) (by kernel_rfl) rfl (iu (aM ak (pv 2) aF 0x0)) gH (λ_ _ _ _=>(au (i:=0) (show(["atom","frame"]:List Str).Nodup by decide +kernel) rfl 0x3 (.inr rfl))) (λ_ _ _ _=>gS) (λ_ _ _ _=>(bt (pv 1) T.cP.cl T.cx.m Qa (hr*>#[]) T.cx.b .nil bN (pv 0>=>aH))))>=>aH)) 0x1) (~~~du)) aj) hW3); ?_);refine(let W1:TS:=_; have hW1:aV XX ((aU eo).drop 1) W1:=(aK (@aa _ _ 2 _ _ _ _ kS.nd rfl 0x3 (bt (pv 0) T.aq.cl T.kG.m Qj (hr*>#[]) T.kG.b .nil bN (pv 1>=>aH)) 0x1 0x5) hW2); ?_);let#[Hb,w,fs,f,sent,cn,fns,F,r,rg,rfl,h,hFl,hF,hn,hr1,hq,hs,hk,q]:=h;show#[_,(aK (@aa _ _ 1 _ _ _ _ kS.nd rfl (Or.inr rfl) (aM dg (bS (pv 0) 0x1) (dG dD aF) 0x0) 0x1 0x5) hW1),?_];have hfm:f∈fs++[f]:=HS _ (HG.mpr rfl);have hf:=h.fr f hfm;have hqH:=h.b<*hq;have hrow:f.row<F.rs.length:=(Gq.mp hr1).1;show#[5,w.a,33,h.o,T.aq.cl,T.dX,13,w.st,35,aG.of h.st,at_end _ _,?_];show#[5,w.a,9,h.o,13,Hb,w,fs++[f],.non,sent,cn,f,fns,F,r,rfl,h,hfm,hFl,hF,hn,hr1,?_];cases rg with
   | back a =>
     let#[v,hv,q]:=q;show#[5,r.r,35,hqH,aP,13,iN #[5,r.r,35,hqH,aP,13,iP #[5,w.a,9,h.o,13,f.a,9,hf.o,13,r.r,35,hqH,rfl,f,a,v,rfl,hf,hv,Hb,w,fs,.non,sent,cn,f,v,rfl,h,q]]]
   | out a =>
     show#[5,r.r,35,hqH,aP,13,iN #[5,r.r,35,hqH,aP,13,iN #[5,r.r,35,hqH,aP,bE,λtp htp=>#[tp,5,.inr (aN.of aI),rfl,0x7,5,iN ?_]]]];have s1:=aB.new (o:=.tup [.str (Str.ofString "if"),.str (Str.ofString "while")]) htp;have h1:=h.grow s1;have g1:=cH (H2:=upd H tp (.tup [.str (Str.ofString "if"),.str (Str.ofString "while")])) h.b;let#[r2,hw,v,hv,q]:=q;show#[5,w.a,9,h1.o,106,w,fs,.non,sent,cn,f,r.r,.out a,rfl,h1,g1<*hq,hs,hk,v,hv,λHb2 H2 tq s2 h2 e2=>?_];show#[5,w.a,9,h2.o,13,Hb2,w,fs,.non,sent++[v],cn,f,fns,F,(0),r2,rfl,h2,(hFl*>g1).mono s2,hF,hn,hrow,hw,λH3 h3=>#[5,q Hb2 H3 tq (g1\s2) h3 e2]]
   | put a fd b =>
     show#[5,r.r,35,hqH,aP,13,iN #[5,r.r,35,hqH,aP,13,iN #[5,r.r,35,hqH,aP,bE,λtp htp=>#[tp,5,.inr (aN.of aI),rfl,0x7,5,iN ?_]]]];have s1:=aB.new (o:=.tup [.str (Str.ofString "if"),.str (Str.ofString "while")]) htp;have h1:=h.grow s1;have g1:=cH (H2:=upd H tp (.tup [.str (Str.ofString "if"),.str (Str.ofString "while")])) h.b;let#[r2,hw,i,v,ha,hv,hl,q]:=q;show#[5,w.a,9,h1.o,106,w,fs,.non,sent,cn,f,r.r,.put a fd b,rfl,h1,g1<*hq,hs,hk,i,v,ha,hv,hl,λHb2 H2 tq s2 h2 e2=>?_];show#[5,w.a,9,h2.o,13,Hb2,w,fs,.non,sent,#[aQ cn.kv (fk i fd) v,cn.rc],f,fns,F,(0),r2,rfl,h2,(hFl*>g1).mono s2,hF,hn,hrow,hw,λH3 h3=>#[5,q Hb2 H3 tq (g1\s2) h3 e2]]
   | new x =>
     show#[5,r.r,35,hqH,aP,13,iN #[5,r.r,35,hqH,aP,13,iN #[5,r.r,35,hqH,aP,bE,λtp htp=>#[tp,5,.inr (aN.of aI),rfl,0x7,5,iN ?_]]]];have s1:=aB.new (o:=.tup [.str (Str.ofString "if"),.str (Str.ofString "while")]) htp;have h1:=h.grow s1;have g1:=cH (H2:=upd H tp (.tup [.str (Str.ofString "if"),.str (Str.ofString "while")])) h.b;let#[r2,hw,q]:=q;show#[5,w.a,9,h1.o,106,w,fs,.non,sent,cn,f,r.r,.new x,rfl,h1,g1<*hq,hs,hk,λHb2 H2 tq s2 h2 e2=>?_];show#[5,w.a,9,h2.o,13,Hb2,w,fs,.non,sent,#[cn.kv,cn.rc+1],{ f with kvs:=aQ f.kvs (Sum.inr x:aE) (.int (cn.rc+1)) },fns,F,(0),r2,rfl,h2,(hFl*>g1).mono s2,hF,hn,hrow,hw,λH3 h3=>#[5,q Hb2 H3 tq (g1\s2) h3 e2]]
   | get x a fd =>
     show#[5,r.r,35,hqH,aP,13,iN #[5,r.r,35,hqH,aP,13,iN #[5,r.r,35,hqH,aP,bE,λtp htp=>#[tp,5,.inr (aN.of aI),rfl,0x7,5,iN ?_]]]];have s1:=aB.new (o:=.tup [.str (Str.ofString "if"),.str (Str.ofString "while")]) htp;have h1:=h.grow s1;have g1:=cH (H2:=upd H tp (.tup [.str (Str.ofString "if"),.str (Str.ofString "while")])) h.b;let#[r2,hw,y,v,hg,q]:=q;show#[5,w.a,9,h1.o,106,w,fs,.non,sent,cn,f,r.r,.get x a fd,rfl,h1,g1<*hq,hs,hk,y,v,hg,λHb2 H2 s2 h2=>?_];show#[5,w.a,9,h2.o,13,Hb2,w,fs,.non,sent,cn,{ f with kvs:=aQ f.kvs (Sum.inr y:aE) v },fns,F,(0),r2,rfl,h2,(hFl*>g1).mono s2,hF,hn,hrow,hw,λH3 h3=>#[5,q Hb2 H3 (g1\s2) h3]]
   | op x s a b =>
     show#[5,r.r,35,hqH,aP,13,iN #[5,r.r,35,hqH,aP,13,iN #[5,r.r,35,hqH,aP,bE,λtp htp=>#[tp,5,.inr (aN.of aI),rfl,0x7,5,iN ?_]]]];have s1:=aB.new (o:=.tup [.str (Str.ofString "if"),.str (Str.ofString "while")]) htp;have h1:=h.grow s1;have g1:=cH (H2:=upd H tp (.tup [.str (Str.ofString "if"),.str (Str.ofString "while")])) h.b;let#[r2,hw,y,v,hg,q]:=q;show#[5,w.a,9,h1.o,106,w,fs,.non,sent,cn,f,r.r,.op x s a b,rfl,h1,g1<*hq,hs,hk,y,v,hg,λHb2 H2 s2 h2=>?_];show#[5,w.a,9,h2.o,13,Hb2,w,fs,.non,sent,cn,{ f with kvs:=aQ f.kvs (Sum.inr y:aE) v },fns,F,(0),r2,rfl,h2,(hFl*>g1).mono s2,hF,hn,hrow,hw,λH3 h3=>#[5,q Hb2 H3 (g1\s2) h3]]
   | copy x a =>
     show#[5,r.r,35,hqH,aP,13,iN #[5,r.r,35,hqH,aP,13,iN #[5,r.r,35,hqH,aP,bE,λtp htp=>#[tp,5,.inr (aN.of aI),rfl,0x7,5,iN ?_]]]];have s1:=aB.new (o:=.tup [.str (Str.ofString "if"),.str (Str.ofString "while")]) htp;have h1:=h.grow s1;have g1:=cH (H2:=upd H tp (.tup [.str (Str.ofString "if"),.str (Str.ofString "while")])) h.b;let#[r2,hw,y,v,hg,q]:=q;show#[5,w.a,9,h1.o,106,w,fs,.non,sent,cn,f,r.r,.copy x a,rfl,h1,g1<*hq,hs,hk,y,v,hg,λHb2 H2 s2 h2=>?_];show#[5,w.a,9,h2.o,13,Hb2,w,fs,.non,sent,cn,{ f with kvs:=aQ f.kvs (Sum.inr y:aE) v },fns,F,(0),r2,rfl,h2,(hFl*>g1).mono s2,hF,hn,hrow,hw,λH3 h3=>#[5,q Hb2 H3 (g1\s2) h3]]
   | call x g p as =>
     let#[G,vals,hG,hgn,hp,hl,hv,hal,hfl,hnn,hps,q]:=q;subst hgn;show#[5,r.r,35,hqH,aP,13,iP #[5,w.a,9,h.o,13,r.r,35,hqH,13,r.r,35,hqH,rfl,p,rfl,#[_,h.b<*hp],λu hu=>u6 (K:=K) (λi _ y=>∃a,as[i]?=⇑a/\av f.kvs a=⇑y) (λ_ _ _ _ _ z=>z) (xs:=as) ∅ (h.b<*hp) hu ?_ ?_]]
     . rintro i z H2 R' hz s2 ⟨acc,ha⟩ r2;have h2:=h.grow s2;have hf2:=h2.fr f hfm;have hi:i<vals.length:=by rw[<- hl]; exact(Gq.mp hz).1
       have hvi:=hv i z _ hz (HN hi);show#[5,f.a,9,hf2.o,13,f,z,5,hf2,hvi,r2 _ H2 (aB.refl _) #[z,hz,hvi]]
     . intro H3 ys s3 e3 ly ty;have ey:ys=vals:=by
         refine KI λi=>?_;cases e:ys[i]? with
         | none=>rw[Im (by have:=J3.mp e; lia)]
         | some y =>
           let#[a,h1,h2]:=ty i y e;have hi:i<vals.length:=by rw[<- hl]; exact(Gq.mp h1).1
           have:=hv i a _ h1 (HN hi);rw[h2] at this;rw[HN hi,this]
       subst ey;have h3:=h.grow s3;have u0:H u=none:=hu;show#[_,w,fs++[f],.non,sent,cn,fns,G,u,ys,rfl,h3,hFl*>(cH h.b),hG,aG.of (eE u0 e3),∅,by rw[Gv]; show fs.length+1<=1000; lia,hnn,hps,λHb2 H4 f' s4 h4 e4 e5 e6=>q Hb2 H4 f' ((cH h.b)\s4) h4 e4 e5 e6]
   | ifs a =>
     show#[5,r.r,35,hqH,aP,13,iN #[5,r.r,35,hqH,aP,13,iN #[5,r.r,35,hqH,aP,bE,λtp htp=>#[tp,5,.inr (aN.of aI),rfl,0x7,5,iP ?_]]]];have s1:=aB.new (o:=.tup [.str (Str.ofString "if"),.str (Str.ofString "while")]) htp;have h1:=h.grow s1;have g1:=cH (H2:=upd H tp (.tup [.str (Str.ofString "if"),.str (Str.ofString "while")])) h.b;let#[i,r2,hv,hw,q]:=q;have hf1:=h1.fr f hfm;by_cases hi:i≠0
     . rw[HI hi] at hw;show#[5,w.a,9,h1.o,53,f.a,9,hf1.o,13,r.r,35,s1<*hqH,rfl,f,a,5,hf1,hv,13,ao (by rw[Hg (λz=>hi (V.int.inj z))]; rfl) #[_,w,fs,.non,sent,cn,f,fns,F,(0),r2,rfl,h1,hFl*>g1,hF,hn,hrow,hw,λH3 h3=>q _ H3 g1 h3]]
     . rw[Gu hi] at hw;show#[5,w.a,9,h1.o,53,f.a,9,hf1.o,13,r.r,35,s1<*hqH,rfl,f,a,5,hf1,hv,13,ai ↑hi #[_,w,fs,.non,sent,cn,f,fns,F,(1),r2,rfl,h1,hFl*>g1,hF,hn,hrow,hw,λH3 h3=>q _ H3 g1 h3]]
   | whl a =>
     show#[5,r.r,35,hqH,aP,13,iN #[5,r.r,35,hqH,aP,13,iN #[5,r.r,35,hqH,aP,bE,λtp htp=>#[tp,5,.inr (aN.of aI),rfl,0x7,5,iP ?_]]]];have s1:=aB.new (o:=.tup [.str (Str.ofString "if"),.str (Str.ofString "while")]) htp;have h1:=h.grow s1;have g1:=cH (H2:=upd H tp (.tup [.str (Str.ofString "if"),.str (Str.ofString "while")])) h.b;let#[i,r2,hv,hw,q]:=q;have hf1:=h1.fr f hfm;by_cases hi:i≠0
     . rw[HI hi] at hw;show#[5,w.a,9,h1.o,53,f.a,9,hf1.o,13,r.r,35,s1<*hqH,rfl,f,a,5,hf1,hv,13,ao (by rw[Hg (λz=>hi (V.int.inj z))]; rfl) #[_,w,fs,.non,sent,cn,f,fns,F,(0),r2,rfl,h1,hFl*>g1,hF,hn,hrow,hw,λH3 h3=>q _ H3 g1 h3]]
     . rw[Gu hi] at hw;show#[5,w.a,9,h1.o,53,f.a,9,hf1.o,13,r.r,35,s1<*hqH,rfl,f,a,5,hf1,hv,13,ai ↑hi #[_,w,fs,.non,sent,cn,f,fns,F,(1),r2,rfl,h1,hFl*>g1,hF,hn,hrow,hw,λH3 h3=>q _ H3 g1 h3]]
def Be:FnScope ["self"] ["self"] (ac m6):=by walk_at "s"
def GF (T:Txt K mg t):FnOk P w K mg base CX0 5 t.vb t.xD ["self"] (zT K t):=by
 have Qb:=mw (P:=P) (w:=w) (base:=base) T;have QQ:=ES (P:=P) (w:=w) (base:=base) T;refine T.pH.F.ok Be (λvs H Q E h=>?_) (λcdv A outer s H vs Q E hr h=>?_)
 . let#[_,_,_,_,_,_,_,_,_,_,rfl,_]:=h;rfl
 . let#[Hb,w,fs,f,sent,cn,fns,F,r,rg,rfl,h,hFl,hF,hn,hr1,hq,hs,hk,q]:=h;show#[_,(aK (ah (nI (dn (pv 0) T.aq.cl T.fZ.m Qb (hr*>#[]) T.fZ.b .nil bN)) (@aO _ _ _ nS) aj) (~~~(dn (pv 0) T.aq.cl T.p7.m QQ (hr*>#[]) T.p7.b .nil bN))),?_];show#[5,w.a,9,h.o,rfl,Hb,w,fs++[f],.non,sent,cn,rfl,h,5,ai 0xA #[5,w.a,9,h.o,rfl,Hb,w,fs,f,sent,cn,fns,F,r,rg,rfl,h,hFl,hF,hn,hr1,hq,hs,hk,q]]
def Dj:FnScope ["self","program","args"] ["self","program","args"] (ac lO):=by walk_at "s"
def F9 (T:Txt K mg t):FnOk P w K mg base CX0 7 t.vJ t.wn ["self","program","args"] (Dq K t):=by
 have QR:=yX (P:=P) (w:=w) (base:=base) T;have Qk:=uB (P:=P) (w:=w) (base:=base) T;refine T.vA.F.ok Dj (λvs H Q E h=>?_) (λcdv A outer s H vs Q E hr h=>?_)
 . let#[_,_,_,_,_,_,_,rfl,_]:=h;rfl
 . let#[x,dx,p,ar,fns,F,vals,rfl,hx,hp,hne,hlen,hall,hnd,hF,har,hv,hnn,hps,q]:=h;show#[_,(aK (@bK _ _ _ _ (zW (ot rfl T.Gk.g rfl) T.pC.B QR (hr*>#[]) T.pC.b .nil bN (pv 0>=>pv 1>=>aH)) 0x1) (@aO _ _ _ (@bK _ _ _ _ (bt (pv 0) T.aq.cl T.kE.m Qk (hr*>#[]) T.kE.b .nil bN ((bS (bS (pv 0) 0x1) 0x1)>=>pv 2>=>aH)) 0x1))),?_];show#[21,x,dx,p,fns,rfl,hx,hp,hne,hlen,hall,hnd,λHb w H1 ew s1 h1 hFl hOf=>?_];subst ew;let#[dx3,gs3,fz,c1,c2,c3]:=GV (hFl*>h1.b);rw[hF] at c2;cases c2;have hFm:F∈fns:=He hF;show#[5,w.a,9,h1.o,13,w.a,33,h1.o,T.aq.cl,T.ez,rfl,w.fl,33,c1,T.d7.cl,T.jB,c3,5,Hb,w,[],.non,[],#[[],(0)],fns,F,ar,vals,rfl,h1,hFl,hFm,s1.seq har,hv,#[],hnn,hps,λHb2 H2 f s2 h2 e1 e2 e3=>?_];exact q Hb2 w f H2 rfl (s1\s2) h2 (hFl*>s2) (hOf*>s2) e1 e2 e3
def As:FnScope ["_law_script","_law_k"] ["_law_script","_law_k"] (ac lV):=by walk_at "s"
def uk (T:Txt K mg t):FnOk P w K mg base CX0 1 t.vt t.xN ["_law_script","_law_k"] (Cz K):=by
 refine T.j9.F.ok As (λvs H Q E h=>?_) (λcdv A outer s H vs Q E hr h=>?_)
 . let#[_,_,_,rfl,_]:=h;rfl
 . let#[a,ns,k,rfl,hS,hl,h0,q]:=h;show#[_,(aK (ah (bL g9 (pv 1) (bY gU 0x1 T.b_len cL (pv 0>=>aH)) (aY _)) (~~~(aM dg (pv 0) (pv 1) 0x0)) aj) (~~~aF)),?_];have hlen:(ns.map V.int).length=ns.length:=Go _;show#[21,a,5,.inl hS,77,?_];refine oZ (λc=>?_) (λc=>?_)
   . have c:=bT c;rw[hlen] at c;let#[z,hz]:=Ak h0 c;show#[21,a,35,hS,hz,q _]
   . exact q _
def kB:FnScope ["_law_cell","_law_many","_law_found","_law_number","_law_k"] ["_law_cell","_law_many"] (ac kA):=by walk_at "s"
def CJ (T:Txt K mg t):FnOk P w K mg base CX0 1 t.wP t.xh ["_law_cell","_law_many"] (DN K):=by
 refine T.pT.F.ok kB (λvs H Q E h=>?_) (λcdv A outer s H vs Q E hr h=>?_)
 . let#[_,_,rfl,_]:=h;rfl
 . skip
   refine lx ?_;intro XX;refine(let W2:TS:=_; have hW2:aV XX ((aU kA).drop 2) W2:=(aK (cG PassesOwn.never rfl (lF rfl T.b_range ((cV<$>pv 1<*>aF)>=>aH)) (au (i:=4) kB.nd rfl 0x3) (aK (@aa _ _ 3 _ _ _ _ kB.nd rfl 0x3 (cN<$>(cV<$>(cV<$>(fS<$>pv 3<*>pv 3)<*>(fS<$>aF<*>pv 3))<*>pv 4)<*>aF) 0x1 0x5) (@aO _ _ _ (@bK _ _ _ _ (br HK HP HQ eX (pv 2) (pv 3>=>aH)) 0x1)))) (~~~(gL gt (pv 2) (fN aF) gy))); ?_);let#[c,m,rfl,hm,q]:=h;show#[_,(aK (@aa _ _ 2 _ _ _ _ kB.nd rfl 0x3 (bI aH) 0x1 0x5) (aK (@aa _ _ 3 _ _ _ _ kB.nd rfl 0x3 (cV<$>(cN<$>pv 0<*>aF)<*>aF) 0x1 0x5) hW2)),?_];have bM:∀z:Int,0<=z%2147483647/\z%2147483647<2147483647:=λz=>cq z 2147483647 #[];show#[cM,λl hl=>?_];generalize e:upd H l _=H1;have ⟨s1,e1⟩:=nw e hl;show#[83,(show(0:Int)<2147483647 by decide),19,?_];have b0:=bM c;show#[333,∅,∅,(let Jv1:Nat->St->Hp->Prop:=λi σ H'=>∃(k:Int) (v4:Kd V) (ns:List Int),σ=[⇑(.int c),⇑(.int m),⇑↥l,⇑(.int k),v4]/\0<=k/\k<2 ^ 40/\aB H H'/\H' l=⇑(.lst (ns.map V.int))/\ns.length=i/\∀n∈ns,0<=n; k9 (lo:=0) (n:=((m:Int)+1).toNat) Jv1 #[c%2147483647+48271,_,[],rfl,∅,∅,s1,e1,rfl,λn h=>by cases h] ?_ ?_)]
   . rintro i σ H' hi ⟨k,v4,ns,rfl,k0,k1,s2,e2,hlen,hns⟩;have b:=bM (k * k+48271 * k+(0+(i:Int)));show#[339,.inl #[∅,∅],83,.inl #[#[],#[]],19763,(show(0:Int)<2147483647 by decide),5,.inl #[6,aG.of e2],5,l,19,e2,ay (by rw[Go]; lia),(k * k+48271 * k+(0+(i:Int)))%2147483647,_,ns++[(k * k+48271 * k+(0+(i:Int)))%2147483647],rfl,b.1,∅,s2.upd hl,?_,by rw[Gv,hlen]; rfl,λn hn=>?_]
     . rw[Gy]; exact aI
     . rcases HW.mp hn with hn|hn
       . exact hns n hn
       . rw[HG.mp hn]; exact b.1
   . rintro σ H' ⟨k,v4,ns,rfl,k0,k1,s2,e2,hlen,hns⟩;show#[21,l,5,aG.of e2,λp hp=>?_];have hc:cR (ns.map V.int) (some 1) none=(ns.drop 1).map V.int:=by rw[GY,List.map_drop]
     rw[hc];exact q p _ (ns.drop 1) (s2.free hp) (s2\(aB.new hp)) aI (by rw[Jg,hlen]; lia) λn hn=>hns n (List.mem_of_mem_drop hn)
def GQ:FnScope ["_law_number"] ["_law_number"] (ac lW):=by walk_at "s"
def Bp (T:Txt K mg t):FnOk P w K mg base CX0 1 t.wR t.xj ["_law_number"] (zq K):=by
 refine T.yI.F.ok GQ (λvs H Q E h=>?_) (λcdv A outer s H vs Q E hr h=>?_)
 . let#[_,rfl,_]:=h;rfl
 . let#[n,rfl,q]:=h;show#[_,(aK (ah (bL b7 (cN<$>pv 0<*>aF) aF (aY _)) (~~~(cN<$>(jP<$>pv 0<*>aF)<*>aF)) aj) (aK (ah (bL b7 (cN<$>pv 0<*>aF) aF (aY _)) (~~~(dS<$>(dS<$>(j5<$>aF<*>aF)<*>aF)<*>(cN<$>(jP<$>pv 0<*>aF)<*>aF))) aj) (~~~(cN<$>(fS<$>(jP<$>pv 0<*>aF)<*>aF)<*>(j5<$>aF<*>aF))))),?_];have x1:(2:Int) ^ (48:Int).toNat=281474976710656:=by decide
   have w1:K21.wide=281474976710656:=by decide
   have b5:=cq (n / 3) 5 #[];show#[83,(show(0:Int)<3 by decide),13,?_];refine oZ (λ_=>?_) (λ_=>?_)
   . show#[83,mj _,19,(show(0:Int)<5 by decide),q _ #[b5.1,by rw[w1]; lia]]
   show#[83,(show(0:Int)<3 by decide),13,?_];refine oZ (λ_=>?_) (λ_=>?_)
   . show#[19,#[#[],#[],#[]],1235,mj _,19,(show(0:Int)<5 by decide),19,q _ #[?_,?_]]
     . rw[x1]; lia
     . rw[x1,w1]; lia
   . show#[83,mj _,19,.inr #[#[],#[]],19,#[#[],#[],#[]],19,(show(0:Int)<2 ^ (48:Int).toNat by decide),q _ ?_];rw[x1];have b:=cq (n / 3 * 160481183) 281474976710656 #[];show#[b.1,by rw[w1]; exact b.2]
def AC:FnScope ["_law_found"] ["_law_found"] (ac mV):=by walk_at "s"
def tK (T:Txt K mg t):FnOk P w K mg base CX0 1 t.wS t.xk ["_law_found"] (By K):=by
 refine T.mZ.F.ok AC (λvs H Q E h=>?_) (λcdv A outer s H vs Q E hr h=>?_)
 . let#[_,rfl,_]:=h;rfl
 . let#[z,rfl,q]:=h;show#[_,(aK (@aX _ _ _ _ (gC (bY gF 0x1 T.b_isinstance gZ (pv 0>=>(gM (v:=V.ty "int") rfl T.b_int eW rfl)>=>aH)) (gp (Ch (bY gF 0x1 T.b_isinstance gZ (pv 0>=>(gM (v:=V.ty "bool") rfl T.b_bool FI rfl)>=>aH)))))) aj),?_];show#[40,true,rfl,.int _,13,ao rfl #[40,false,rfl,.int _,13,q]]
def jr:FnScope ["_law_rows","_law_k","_law_words","_law_depth","_law_at"] ["_law_rows","_law_k","_law_words"] (ac jp):=by walk_at "s"
def ph (T:Txt K mg t):FnOk P w K mg base CX0 1 t.vn t.xL ["_law_rows","_law_k","_law_words"] (Dn K):=by
 refine T.pN.F.ok jr (λvs H Q E h=>?_) (λcdv A outer s H vs Q E hr h=>?_)
 . let#[_,_,_,_,_,_,_,rfl,_]:=h;rfl
 . skip
   refine lx ?_;intro XX;refine(let W2:TS:=_; have hW2:aV XX ((aU jp).drop 2) W2:=(~~~(bY gU 0x1 T.b_len cL (pv 0>=>aH))); ?_);let#[a,wl,ks,ws,k,b,r,rfl,hR,w,hw,hk,hl,hbk,hA,hkr,hc,q]:=h;show#[_,(aK (@aa _ _ 3 _ _ _ _ jr.nd rfl 0x3 aF 0x1 0x5) (aK (cG PassesOwn.never rfl (Dz rfl T.b_range ((cV<$>pv 1<*>aF)>=>(bY gU 0x1 T.b_len cL (pv 0>=>aH))>=>aH)) (au (i:=4) jr.nd rfl 0x3) (ii (ah (@PW.pt _ _ _ (ge (bL b7 (pv 3) aF (aY _)) (gj (bL eS (aM ak (aM ak (pv 0) (pv 4) 0x0) aF 0x0) (pv 2) (by with_unfolding_all rfl))))) (~~~(pv 4)) aj) (aK (ah (bL eS (aM ak (aM ak (pv 0) (pv 4) 0x0) aF 0x0) (bQ (aT>=>aT>=>aH)) (by with_unfolding_all rfl)) (@aO _ _ _ (@aa _ _ 3 _ _ _ _ jr.nd rfl 0x3 (cV<$>pv 3<*>aF) 0x1 0x5)) aj) (@aO _ _ _ (ah (bL b7 (aM ak (aM ak (pv 0) (pv 4) 0x0) aF 0x0) aT (aY _)) (@aO _ _ _ (@aa _ _ 3 _ _ _ _ jr.nd rfl 0x3 (dS<$>pv 3<*>aF) 0x1 0x5)) aj))))) hW2)),?_];let#[rs,e1,e2,e3]:=hR.ex;have lrs:(rs.map V.ref).length=ks.length:=by rw[Go,e2]
   have hr:r<ks.length:=by
     rcases hc with⟨_,h⟩|⟨_,h⟩
     . exact h.2.1
     . exact h.1
   show#[333,a,5,.inr e1,9,#[∅,∅,∅,∅],?_];rw[lrs,show(((ks.length:Int)) - ((k:Int)+1)).toNat=ks.length - (k+1) by lia];refine(let Jv1:Nat->St->Hp->Prop:=λi σ G=>∃(d:Nat) (v4:Kd V),σ=[⇑↥a,⇑(.int k),⇑↥wl,⇑(.int (d:Nat)),v4]/\aB H G/\k+i<r/\K13.At ks b (k+i+1) (d+1); k9 (lo:=(k:Int)+1) (n:=ks.length - (k+1)) Jv1 #[(0),5,aB.refl _,hkr,hA] ?_ ?_)
   . rintro i σ G hi ⟨d,v4,rfl,sG,hkr2,hA2⟩;have hj:k+i+1<ks.length:=by lia
     have ix:∀{Q:VK} {G':Hp},aB H G'->Q (.str (K13.kd ks (k+i+1))) G'->fL K ↥a (.int ((k:Int)+1+(i:Int))) G' λx H1=>fL K x (.int 0) H1 Q:=λs q=>by refine K13.ixk (hR*>s) ∅ ∅ ?_;rw[show((k:Int)+1+(i:Int)).toNat=k+i+1 by lia];exact q
     have hwn:∀(s:Str),cS (.str s) (ws.map V.str)=decide (s∈ws):=λs=>gi s ws;have hwf:(ws.map V.str).all eY=true:=Jh.mpr λx hx=>by let#[y,_,rfl]:=HX.mp hx; rfl
     have hew:("end":Str)∈ws:=by rcases hc with⟨h,_⟩|⟨h,_⟩ <;> rw[h] <;> exact HH
     have fwd:¬ (d=0/\K13.kd ks (k+i+1)∈ws)->k+(i+1)<r:=λnh=>by
       rcases Hk (k+(i+1)) r with y|y
       . exact y
       . exfalso;have hj:k+i+1=r:=by lia
         rw[hj] at nh hA2;rcases hc with⟨h,hE⟩|⟨h,hF⟩
         . have h9:d+1=1:=K13.at_depth hA2 #[[],hE.2.2.2.1,rfl];exact nh #[∅,by rw[h,hE.2.2.1]; exact HH]
         . have h9:d+1=1:=K13.at_top hA2 hF.2.1.2;refine nh #[∅,?_];have:=hF.2.1.1;rw[h];by_cases h1:K13.kd ks r="end"
           . rw[h1]; exact HH
           . by_cases h2:K13.kd ks r="else"
             . rw[h2]; exact Gz _ HH
             . exact absurd this (K13.isE_or h2 h1)
     have hit:d=0->K13.kd ks (k+i+1)∈ws->k+i+1=r:=λhd hm=>by
       subst hd;rcases hc with⟨h,hE⟩|⟨h,hF⟩
       . rw[h] at hm;exact K13.ends_uniq (b:=b) #[∅,hj,HG.mp hm,K13.at_one hA2,λj y1 y2=>hE.2.2.2.2 j y1 ∅] hE
       . rcases Hk (k+i+1) r with y|y
         . refine absurd #[?_,by rw[K13.at_one hA2]; rfl] (hF.2.2 _ y);rw[h] at hm;rcases HM.mp hm with z|z
           . rw[z]; decide +kernel
           . rw[HG.mp z]; decide +kernel
         . lia
     show#[λσ' G'=>G'=G/\σ'=[⇑↥a,⇑(.int k),⇑↥wl,⇑(.int (d:Nat)),⇑(.int ((k:Int)+1+(i:Int)))]/\¬ (d=0/\K13.kd ks (k+i+1)∈ws),?_,?_]
     . show#[45,?_];by_cases hd:d=0
       . subst hd;refine ao (HJ rfl) ?_;show#[21,ix sG ?_];show#[5,wl,5,.inl (sG.seq hw),rfl,hwf,5,?_];show(if cS (.str _) _=true then _ else _);rw[hwn];by_cases hm:K13.kd ks (k+i+1)∈ws
         . refine ao (HJ hm) #[5,?_];rw[show((k:Int)+1+(i:Int))=((r:Nat):Int) by have:=hit rfl hm; lia];exact q G sG
         . refine ai (λz=>hm (Ht z)) ?_;show#[7,λz=>hm z.2]
       . refine ai (λz=>hd (by have:=V.int.inj (bT z); lia)) ?_;show#[7,λz=>hd z.1]
     . rintro σ' G' ⟨rfl,rfl,nh⟩;have hf:=fwd nh;show#[21,ix sG ?_];show#[bE,λtp htp=>#[tp,[V.str "if",V.str "while"],rfl,.inr (aN.of aI),29,?_]];have s2:=sG.upd (p:=tp) (o:=.tup [V.str "if",V.str "while"]) (sG.free htp);show(if cS (.str _) (([("if":Str),"while"]).map V.str)=true then _ else _);rw[gi];by_cases ho:K13.isO (K13.kd ks (k+i+1))=true
       . refine ao (HJ (by unfold K13.isO at ho; simpa using ho)) ?_;show#[1333,ix s2 ?_];show#[13,ai (λz=>K13.isO_not_end ho (V.str.inj (bT z))) ?_];show#[d+1,5,s2,hf,?_];exact K13.at_open hA2 ho
       . refine ai (λz=>ho (by unfold K13.isO; simpa using Ht z)) ?_;show#[21,ix s2 ?_];by_cases he:K13.kd ks (k+i+1)="end"
         . show#[13,ao (HJ (HY V.str he)) ?_];have hd:0<d:=Nat.pos_of_ne_zero λz=>nh #[z,by rw[he]; exact hew];show#[83,?_];show#[d - 1,⇑(.int ((k:Int)+1+(i:Int))),?_,s2,hf,?_]
           . rw[show((d - 1:Nat):Int)=(d:Int) - 1 by lia];rfl
           . rw[show d - 1+1=d by lia];exact K13.at_end hA2 ∅ he
         . show#[13,ai (λz=>he (V.str.inj (bT z))) ?_];show#[d,5,s2,hf,K13.at_other hA2 ho he]
   . rintro σ G ⟨d,v4,rfl,sG,hkr2,hA2⟩
     lia
def mT:FnScope ["_law_rows","_law_k","_law_depth"] ["_law_rows","_law_k"] (ac jZ):=by walk_at "s"
def AH (T:Txt K mg t):FnOk P w K mg base CX0 1 t.wJ t.xZ ["_law_rows","_law_k"] (F0 K):=by
 refine T.pQ.F.ok mT (λvs H Q E h=>?_) (λcdv A outer s H vs Q E hr h=>?_)
 . let#[_,_,_,_,rfl,_]:=h;rfl
 . skip
   refine lx ?_;intro XX;refine(let W2:TS:=_; have hW2:aV XX ((aU jZ).drop 2) W2:=(~~~aF); ?_);let#[a,ks,k,b,rfl,hR,w,hk,hl,hb,q]:=h;show#[_,(aK (@aa _ _ 2 _ _ _ _ mT.nd rfl 0x3 aF 0x1 0x5) (aK (uq PassesOwn.never (bL i' (pv 1) aF (aY _)) (aK (@aa _ _ 1 _ _ _ _ mT.nd rfl 0x3 (dS<$>pv 1<*>aF) 0x1 0x5) (ii (ah (@PW.pt _ _ _ (ge (bL eS (aM ak (aM ak (pv 0) (pv 1) 0x0) aF 0x0) (bQ (aT>=>aT>=>aH)) (by with_unfolding_all rfl)) (gj (bL b7 (pv 2) aF (aY _))))) (~~~(pv 1)) aj) (@aO _ _ _ (@aa _ _ 2 _ _ _ _ mT.nd rfl 0x3 (dS<$>(cV<$>pv 2<*>(cc fH 0x1 T.b_int eW ((dA b7 (aM ak (aM ak (pv 0) (pv 1) 0x0) aF 0x0) aT (aY _))>=>aH)))<*>(cc fH 0x1 T.b_int eW ((dA eS (aM ak (aM ak (pv 0) (pv 1) 0x0) aF 0x0) (bQ (aT>=>aT>=>aH)) (by with_unfolding_all rfl))>=>aH))) 0x1 0x5))))) hW2)),?_];have fJ:(K13.stk ks k)[0]?=⇑b:=by rw[<- hb]; cases K13.stk ks k <;> rfl
   show#[λm σ H'=>∃j d:Nat,σ=[⇑↥a,⇑(.int (j:Int)),⇑(.int (d:Int))]/\aB H H'/\m=j/\j<ks.length/\(K13.stk ks j)[d]?=⇑b,#[k,k,(0),rfl,aB.refl _,rfl,hk,fJ],?_];rintro m σ H' ⟨j,d,rfl,sG,rfl,hj,hs⟩;have hp:=K13.back_pos hs;obtain⟨i,rfl⟩:∃i,m=i+1:=#[m - 1,∅]
   show#[333,?_];refine ao (HJ ∅) #[_,λ_ _ z=>z,?_];show#[83,?_];show fe 1 (V.int (((i+1:Nat):Int) - 1)) _ _ _;rw[show(((i+1:Nat):Int) - 1)=(i:Int) by lia];have ix:∀{Q:VK} {G':Hp},aB H G'->Q (.str (K13.kd ks i)) G'->fL K ↥a (.int (i:Int)) G' λx H1=>fL K x (.int 0) H1 Q:=λs q=>by refine K13.ixk (hR*>s) ∅ ∅ ?_;exact q
   show#[λσ' G'=>aB H G'/\σ'=[⇑↥a,⇑(.int (i:Int)),⇑(.int (d:Int))]/\¬ (d=0/\K13.isO (K13.kd ks i)=true),?_,?_]
   . show#[21,ix sG ?_];show#[bE,λtp htp=>#[tp,[V.str "if",V.str "while"],rfl,.inr (aN.of aI),29,?_]];have s2:=sG.upd (p:=tp) (o:=.tup [V.str "if",V.str "while"]) (sG.free htp);show(if cS (.str _) (([("if":Str),"while"]).map V.str)=true then _ else _);rw[gi];by_cases ho:K13.isO (K13.kd ks i)=true
     . refine ao (HJ (by unfold K13.isO at ho; simpa using ho)) ?_;show#[45,?_];by_cases hd:d=0
       . subst hd;refine ao (HJ rfl) #[5,?_];rw[<- K13.back_found hs ho];exact q _ s2
       . refine ai (λz=>hd (by have:=V.int.inj (bT z); lia)) ?_;show#[s2,rfl,λz=>hd z.1]
     . refine ai (λz=>ho (by unfold K13.isO; simpa using Ht z)) ?_;show#[s2,rfl,λz=>ho z.2]
   . rintro σ' G' ⟨s3,rfl,nh⟩;show#[85,ix s3 #[rfl,.inr #[5,?_]]];show#[309,ix s3 ?_];show#[bE,λtp htp=>#[tp,[V.str "if",V.str "while"],rfl,.inr (aN.of aI),7,.inr #[5,?_]]];have s4:=s3.upd (p:=tp) (o:=.tup [V.str "if",V.str "while"]) (s3.free htp);have ei:cS (.str (K13.kd ks i)) (([("if":Str),"while"]).map V.str)=K13.isO (K13.kd ks i):=by rw[gi];unfold K13.isO;by_cases h1:K13.kd ks i="if" <;> by_cases h2:K13.kd ks i="while" <;> simp [h1,h2]
     show#[19,?_];show#[i,∅,i,?_];show ∃d':Nat,([⇑↥a,⇑(.int (i:Int)),⇑(.int ((d:Int)+(if decide (V.str (K13.kd ks i)=V.str "end")=true then 1 else 0) - (if cS (.str (K13.kd ks i)) (([("if":Str),"while"]).map V.str)=true then 1 else 0)))]:St)=[⇑↥a,⇑(.int (i:Int)),⇑(.int (d':Int))]/\_;rw[ei];by_cases ho:K13.isO (K13.kd ks i)=true
     . rw[Gu (λz=>K13.isO_not_end ho (V.str.inj (bT z))),HI ho];obtain⟨d',rfl⟩:∃d',d=d'+1:=#[d - 1,by have:¬ d=0:=λz=>nh #[z,ho]; lia]
       show#[d',by rw[show((d'+1:Nat):Int)+0 - 1=(d':Int) by lia],s4,rfl,∅,K13.back_open hs ho]
     . rw[Gu ho];by_cases he:K13.kd ks i="end"
       . rw[HI (HJ (HY V.str he))];show#[d+1,by rw[show(d:Int)+1 - 0=((d+1:Nat):Int) by lia],s4,rfl,∅,K13.back_end hs he (w.open_ i ∅ (by rw[he]; decide +kernel))]
       . rw[Gu (λz=>he (V.str.inj (bT z)))];show#[d,by rw[show(d:Int)+0 - 0=(d:Int) by lia],s4,rfl,∅,K13.back_other hs ho he]
def mK:FnScope ["_law_rows","_law_k"] ["_law_rows","_law_k"] (ac lB):=by walk_at "s"
def rA (T:Txt K mg t):FnOk P w K mg base CX0 2 t.wO t.xg ["_law_rows","_law_k"] (zA K):=by
 have Ql:=ph (P:=P) (w:=w) (base:=base) T;have Qt:=AH (P:=P) (w:=w) (base:=base) T;refine T.pS.F.ok mK (λvs H Q E h=>?_) (λcdv A outer s H vs Q E hr h=>?_)
 . let#[_,_,_,_,rfl,_]:=h;rfl
 . let#[a,ks,k,r,rfl,hR,w,hk,hl,hB,q]:=h;show#[_,(aK (uq PassesOwn.never (bL eS (aM ak (aM ak (pv 0) (pv 1) 0x0) aF 0x0) (bQ (aT>=>aT>=>aH)) (by with_unfolding_all rfl)) (@aO _ _ _ (ah (bL b7 (aM ak (aM ak (pv 0) (pv 1) 0x0) aF 0x0) aT (aY _)) (@aO _ _ _ (@aa _ _ 1 _ _ _ _ mK.nd rfl 0x3 (cV<$>(b8 T.pN Ql (hr*>#[]) (pv 0>=>pv 1>=>(bI (aT>=>aH))>=>aH))<*>aF) 0x1 0x5)) (@aO _ _ _ (ah (bL b7 (aM ak (aM ak (pv 0) (b8 T.pQ Qt (hr*>#[]) (pv 0>=>pv 1>=>aH)) 0x0) aF 0x0) aT (aY _)) (@aO _ _ _ (@aa _ _ 1 _ _ _ _ mK.nd rfl 0x3 (b8 T.pQ Qt (hr*>#[]) (pv 0>=>pv 1>=>aH)) 0x1 0x5)) (@aO _ _ _ (@aa _ _ 1 _ _ _ _ mK.nd rfl 0x3 (cV<$>pv 1<*>aF) 0x1 0x5))))))) (~~~(pv 1))),?_];show#[λm σ H'=>∃j:Nat,σ=[⇑↥a,⇑(.int (j:Int))]/\aB H H'/\j<ks.length/\((∃i,j=i+1/\m+i=ks.length/\K13.Beh ks i r)\/(j=r/\m=0/\¬ K13.isE (K13.kd ks j)=true)),#[ks.length - k,k+1,rfl,aB.refl _,hk,.inl #[k,rfl,∅,hB]],?_];rintro m σ G ⟨j,rfl,sG,hj,hc⟩;have ix:∀{Q:VK} {G':Hp},aB H G'->Q (.str (K13.kd ks j)) G'->fL K ↥a (.int (j:Int)) G' λx H1=>fL K x (.int 0) H1 Q:=λs q=>by refine K13.ixk (hR*>s) ∅ ∅ ?_;exact q
   have ei:cS (.str (K13.kd ks j)) (([("else":Str),"end"]).map V.str)=K13.isE (K13.kd ks j):=by rw[gi];unfold K13.isE;by_cases h1:K13.kd ks j="else" <;> by_cases h2:K13.kd ks j="end" <;> simp [h1,h2]
   show#[21,ix sG ?_];show#[bE,λtp htp=>#[tp,[V.str "else",V.str "end"],rfl,.inr (aN.of aI),29,?_]];have s2:=sG.upd (p:=tp) (o:=.tup [V.str "else",V.str "end"]) (sG.free htp);show(if cS (.str _) (([("else":Str),"end"]).map V.str)=true then _ else _);rw[ei];by_cases hE:K13.isE (K13.kd ks j)=true
   . refine ao hE #[_,λ_ _ z=>z,?_];let#[i,rfl,hm,hB]:=hc.resolve_right λz=>absurd hE z.2.2;show#[21,ix s2 #[13,?_]];by_cases h1:K13.kd ks (i+1)="else"
     . refine ao (HJ (HY V.str h1)) ?_;cases hB with
       | whl g _ _=>exact absurd (h1.symm\g) K13.els_fin
       | fin g _ _ _=>exact absurd (h1.symm\g) K13.els_fin
       | oth g _=>exact absurd h1 g
       | @els _ b e _ g1 g2 g3 g4 =>
         have hH:K13.Hit ks b (i+1):=#[by rw[h1]; decide +kernel,g2]
         have h5:i+1<=e:=K13.hit_le g3 hH;have hbi:=(K13.hit_lt hH).1;have h6:=g3.2.1;have hne:i+1<e:=by
           rcases Hk (i+1) e with z|z
           . exact z
           . have:i+1=e:=by lia
             rw[this,g3.2.2.1] at h1;exact absurd h1.symm K13.els_fin
         let#[d,hA]:=g3.2.2.2.2 (i+1) hbi h5;have hd:=K13.at_top hA g2;subst hd;have hA:=K13.at_other hA (λz=>K13.isO_not_else z h1) (λz=>K13.els_fin (h1.symm\z));show#[21,d6,λwl hwl=>?_];have s3:=s2.upd (p:=wl) (o:=.lst [V.str "end"]) (s2.free hwl);show#[a,wl,ks,["end"],i+1,b,e,rfl,hR*>s3,w,aG.of aI,hj,hl,∅,hA,hne,.inl #[rfl,g3],λG2 s4=>?_];have s5:=s3\s4;show#[19,ks.length - e,∅,e+1,rfl,s5,?_,.inl #[e,rfl,∅,g4]];rcases Hk (e+1) ks.length with z|z
         . exact z
         . have:=w.last e ∅;rw[g3.2.2.1] at this;exact absurd this.symm K13.back_ne.2
     . refine ai (λz=>h1 (V.str.inj (bT z))) ?_;have h2:K13.kd ks (i+1)="end":=Classical.byContradiction λz=>K13.isE_or h1 z hE;cases hB with
       | els g _ _ _=>exact absurd g h1
       | oth _ g=>exact absurd h2 g
       | @whl _ b g1 g2 g3 =>
         show#[85,a,ks,i+1,5,hR*>s2,w,hj,hl,g2,λG2 s4=>?_];have s5:=s2\s4;have hb:=K13.stk_lt ks (i+1) _ (Ia g2);refine K13.ixk (hR*>s5) ∅ ∅ #[13,ao (HJ ?_) ?_]
         . exact HY V.str g3
         show#[21,a,ks,i+1,5,hR*>s5,w,hj,hl,g2,λG3 s6=>?_];show#[(0),∅,5,s5\s6,∅,.inr #[7,?_]];rw[g3];decide +kernel
       | @fin _ b _ g1 g2 g3 g4 =>
         show#[85,a,ks,i+1,5,hR*>s2,w,hj,hl,g2,λG2 s4=>?_];have s5:=s2\s4;have hb:=K13.stk_lt ks (i+1) _ (Ia g2);refine K13.ixk (hR*>s5) ∅ ∅ #[13,ai (λz=>g3 (V.str.inj (bT z))) ?_];show#[83,m - 1,∅,i+1+1,rfl,s5,?_,.inl #[i+1,rfl,∅,g4]];rcases Hk (i+1+1) ks.length with z|z
         . exact z
         . have:=w.last (i+1) ∅;rw[h2] at this;exact absurd this.symm K13.back_ne.2
   . refine ai hE #[5,?_];rcases hc with⟨i,rfl,hm,hB⟩|⟨rfl,_,_⟩
     . cases hB with
       | oth _ _=>exact q _ s2
       | els g _ _ _=>exact absurd (by rw[g]; decide +kernel) hE
       | whl g _ _=>exact absurd (by rw[g]; decide +kernel) hE
       | fin g _ _ _=>exact absurd (by rw[g]; decide +kernel) hE
     . exact q _ s2
def AD:FnScope ["_law_atom","_law_now"] ["_law_atom","_law_now"] (ac mR):=by walk_at "s"
def mf (T:Txt K mg t):FnOk P w K mg base CX0 1 t.wT t.xm ["_law_atom","_law_now"] (Cd K):=by
 refine T.dr.F.ok AD (λvs H Q E h=>?_) (λcdv A outer s H vs Q E hr h=>?_)
 . let#[_,_,_,_,rfl,_]:=h;rfl
 . let#[v,y,d,kvs,rfl,hd,hv,q]:=h;show#[_,(aK (ah (hU (bY gF 0x1 T.b_isinstance gZ (aC 0>=>(gM (v:=V.ty "str") rfl T.b_str ja rfl)>=>aH))) (~~~(cC (bA hr.units) (aC 1) (aC 0) 0x0)) aj) (~~~(aC 0))),?_];cases v with
   | str n=>show#[10,"str",_,true,rfl,.str _,13,gw #[21,d,5,ck hd hv,q]]
   | int i =>
     cases hv;show#[10,"str",_,false,rfl,.int _,13,gB #[5,q]]
   | _=>cases hv
def uu:FnScope ["_law_sign","_law_one","_law_other","_law_some"] ["_law_sign","_law_one","_law_other"] (ac kP):=by walk_at "s"
def Bs (T:Txt K mg t):FnOk P w K mg base CX0 1 t.wQ t.xi ["_law_sign","_law_one","_law_other"] (FB K):=by
 refine T.yH.F.ok uu (λvs H Q E h=>?_) (λcdv A outer s H vs Q E hr h=>?_)
 . let#[_,_,_,rfl,_]:=h;rfl
 . let#[s,i,j,rfl,hs,i0,i1,j0,j1,q]:=h;show#[_,(aK (ah (bL b7 (pv 0) aT (aY _)) (~~~(fS<$>(eG<$>pv 1<*>(bY (uU rfl) 0x1 T.b_max mv (aF>=>pv 2>=>aH)))<*>(cc fH 0x1 T.b_int eW ((dA i' (pv 2) aF (aY _))>=>aH)))) aj) (aK (ah (bL b7 (pv 0) aT (aY _)) (~~~(cc fH 0x1 T.b_int eW ((dA g9 (pv 1) (pv 2) (aY _))>=>aH))) aj) (aK (ah (bL b7 (pv 0) aT (aY _)) (~~~(cc fH 0x1 T.b_int eW ((dA b7 (pv 1) (pv 2) (aY _))>=>aH))) aj) (aK (@aa _ _ 3 _ _ _ _ uu.nd rfl 0x3 (qG (eh aT (cV<$>pv 1<*>pv 2) (eh aT (dS<$>pv 1<*>pv 2) (eh aT (fS<$>pv 1<*>pv 2) (eh aT (uP<$>pv 1<*>pv 2) (eh aT (uT<$>pv 1<*>pv 2) (eh aT (pd<$>pv 1<*>pv 2) rp)))))) 0x1 0x1 0xA #[]) 0x1 0x5) (~~~(cN<$>(cC (bA hr.units) (pv 3) (pv 0) 0x0)<*>(j5<$>aF<*>aF))))))),?_];have hw:K21.wide=281474976710656:=rfl;have i1:i<281474976710656:=i1;have j1:j<281474976710656:=j1;show#[45,?_];by_cases k4:s="/"
   . refine ao (HJ (HY V.str k4)) ?_;subst k4;have hp:(0:Int)<(if j > 1 then j else 1):=by split <;> lia
     show#[2707,#[hp,(by split <;> lia)],83,.inr #[83,.inr #[by split <;> decide,by split <;> decide],vq (HY V.int ?_) (q H (aB.refl _))]];show _=(if j=0 then 0 else i / j);by_cases z0:j=0
     . subst z0; simp
     . rw[Gu z0,HI (HJ (show 0<j by lia)),Int.mul_one];by_cases z1:j > 1
       . rw[HI z1]
       . rw[Gu z1,show j=1 by lia]
   refine ai (λz=>k4 (V.str.inj (bT z))) #[45,?_];by_cases k5:s="<"
   . refine ao (HJ (HY V.str k5)) ?_;subst k5;show#[339,.inr #[5,vq (HY V.int ?_) (q H (aB.refl _))]];show _=(if i<j then 1 else 0);by_cases hb:i<j <;> simp [hb]
   refine ai (λz=>k5 (V.str.inj (bT z))) #[45,?_];by_cases k6:s="="
   . refine ao (HJ (HY V.str k6)) ?_;subst k6;show#[43,.inr #[5,vq (HY V.int ?_) (q H (aB.refl _))]];show _=(if i=j then 1 else 0);by_cases hb:i=j <;> simp [hb]
   refine ai (λz=>k6 (V.str.inj (bT z))) ?_;obtain⟨z,hz,hv⟩:∃z:Int,(if s="+" then i+j else if s="-" then i - j else if s="*" then i * j else K21.bw s i j)=z/\K21.valOf s i j=z%281474976710656:=by
     show#[5,?_];have hb:=K21.val_bound s i0 j0 i1 j1;unfold K21.valOf at hb ⊢;rw[Gu k4,Gu k5,Gu k6] at hb ⊢;split <;> try rfl
     split <;> try rfl
     split <;> try rfl
     rename_i h1 h2 h3
     rw[Gu h1,Gu h2,Gu h3] at hb;exact(Int.emod_eq_of_lt hb.1 hb.2).symm
   refine λp hp=>#[22238035,.inl #[∅,∅],22238035,aI,[((Sum.inr "+":aE),.int (i+j)),((Sum.inr "-":aE),.int (i - j)),((Sum.inr "*":aE),.int (i * j)),((Sum.inr "&":aE),.int (Builtin.bitAnd i j)),((Sum.inr "|":aE),.int (Builtin.bitOr i j)),((Sum.inr "^":aE),.int (Builtin.bitXor i j))],rfl,(by show 6<=15; decide),21,p,.int z,rfl,ck aI ?_,?_]
   . have hs3:s="+"\/s="-"\/s="*"\/s="&"\/s="|"\/s="^":=by
       simp only[fI,HM,Hh,or_false] at hs;rcases hs with z|z|z|z|z|z|z|z|z
       . exact .inl z
       . exact .inr (.inl z)
       . exact .inr (.inr (.inl z))
       . exact absurd z k4
       . exact absurd z k5
       . exact absurd z k6
       . exact .inr (.inr (.inr (.inl z)))
       . exact .inr (.inr (.inr (.inr (.inl z))))
       . exact .inr (.inr (.inr (.inr (.inr z))))
     rw[<- hz];rcases hs3 with rfl|rfl|rfl|rfl|rfl|rfl <;> rfl
   . show#[19,#[#[],#[],#[]],19,EY,?_];refine vq (HY V.int ?_) (q _ ((aB.new hp).upd hp));rw[hv];exact HY (λy=>z%y) Fy.symm
def lQ:FnScope ["_law_number","_law_sizes","_law_digits_here","_law_size"] ["_law_number","_law_sizes"] (ac lX):=by walk_at "s"
def uJ (T:Txt K mg t):FnOk P w K mg base CX0 1 t.vy t.xP ["_law_number","_law_sizes"] (BZ K):=by
 refine T.pO.F.ok lQ (λvs H Q E h=>?_) (λcdv A outer s H vs Q E hr h=>?_)
 . let#[_,_,_,rfl,_]:=h;rfl
 . let#[n,a,zs,rfl,ha,hz,hlen,q]:=h;show#[_,(aK (@aa _ _ 2 _ _ _ _ lQ.nd rfl 0x3 (bI aH) 0x1 0x5) (aK (cG PassesOwn.never rfl (di (aC 1)) (au (i:=3) lQ.nd rfl 0x3) (aK (@bK _ _ _ _ (br HK HP HQ cu (aC 2) ((bq cN<$>aC 0<*>aC 3)>=>aH)) 0x1) (@aO _ _ _ (@aa _ _ 0 _ _ _ _ lQ.nd rfl 0x3 (bq eG<$>aC 0<*>aC 3) 0x1 0x5)))) (~~~(aC 2)))),?_];show#[cM,λl hl=>?_];generalize e:upd H l _=H1;have ⟨s1,e1⟩:=nw e hl;show#[5,a,rfl,#[_,s1.seq ha],(let Jv1:Nat->St->Hp->Prop:=λi σ H'=>∃v3:Kd V,σ=[⇑(.int (jv n (zs.take i))),⇑↥a,⇑↥l,v3]/\aB H H'/\H' l=⇑(.lst ((gm n (zs.take i)).map V.int)); gX (xs:=zs.map V.int) Jv1 #[5,s1,e1] ?_ ?_ ?_)]
   . rintro i σ H' hi ⟨v3,rfl,s2,e2⟩;exact s2.seq ha
   . rintro i x σ H' hx ⟨v3,rfl,s2,e2⟩;let#[z,hzi,hzm,rfl]:=cb hx;have hzz:=hz z hzm;have et:zs.take (i+1)=zs.take i++[z]:=by rw[Hz,hzi]; rfl
     have ln:((gm n (zs.take i)).map V.int).length<=10:=by rw[Go,rJ,Hl]; lia
     show#[5,.inl #[6,aG.of e2],339,hzz.1,l,19,e2,ay ∅,339,hzz,⇑(.int z),?_,s2.upd hl,?_]
     . rw[et,sf];rfl
     . rw[aI,et,rL,Gy];rfl
   . rintro σ H' ⟨v3,rfl,s2,e2⟩;rw[Go,IP] at e2;show#[5,q l H' hl s2 e2]
def gb:FnScope ["_law_cell","_law_many","_law_digits_here","_law_size","_law_at","_law_fill","_law_found","_law_k","_law_letter"] ["_law_cell","_law_many"] (ac jj):=by walk_at "s"
def Bo (T:Txt K mg t):FnOk P w K mg base CX0 2 t.wL t.xb ["_law_cell","_law_many"] (CQ K):=by
 have Qm:=uJ (P:=P) (w:=w) (base:=base) T;refine T.pR.F.ok gb (λvs H Q E h=>?_) (λcdv A outer s H vs Q E hr h=>?_)
 . let#[_,_,rfl,_]:=h;rfl
 . skip
   refine lx ?_;intro XX;refine(let W5_1:TS:=_; have hW5_1:aV XX ((sB ((aU jj).getD 5 0xB)).drop 1) W5_1:=(@aO _ _ _ (@bK _ _ _ _ (br HK HP HQ cu (aC 6) ((qp<$>(qp<$>(pw<$>aC 5<*>aC 4)<*>aC 8)<*>(pw<$>aC 5<*>(c9 dS<$>(c9 dS<$>aC 3<*>aF)<*>aC 4)))>=>aH)) 0x1)); ?_);let#[c,m,rfl,hm,q]:=h;show#[_,(aK (@aa _ _ 2 _ _ _ _ gb.nd rfl 0x3 (b8 T.pO Qm (hr*>#[]) (aC 0>=>(@BW _ _ [V.int 8,V.int 8,V.int 26,V.int 5] (by kernel_rfl))>=>aH)) 0x1 0x5) (aK (@aa _ _ 3 _ _ _ _ gb.nd rfl 0x3 (c9 cV<$>aF<*>(aM 0x4 (aC 2) aF 0x0)) 0x1 0x5) (aK (@aa _ _ 4 _ _ _ _ gb.nd rfl 0x3 (bq cN<$>(aM 0x4 (aC 2) aF 0x0)<*>aC 3) 0x1 0x5) (aK (@aa _ _ 5 _ _ _ _ gb.nd rfl 0x3 (aM nU aT (aM 0x4 (aC 2) aF 0x0) 0x0) 0x1 0x5) (aK (@aa _ _ 6 _ _ _ _ gb.nd rfl 0x3 (bI aH) 0x1 0x5) (aK (cG PassesOwn.never rfl (lF rfl T.b_range (aC 1>=>aH)) (au (i:=7) gb.nd rfl 0x3) (aK (@aa _ _ 8 _ _ _ _ gb.nd rfl 0x3 (aM nU aT (bq cN<$>(c9 cV<$>(aM 0x4 (aC 2) aF 0x0)<*>aC 7)<*>aF) 0x0) 0x1 0x5) hW5_1)) (~~~(aC 6)))))))),?_];have lf:("abcdefghijklmnopqrstuvwxyz":Str).length<=sizeLine:=by decide +kernel
   have lq:("qxzjw":Str).length<=sizeLine:=by decide +kernel
   show#[5,gO,λp hp=>#[c,p,[8,8,26,5],rfl,aG.of aI,#[],#[],λl0 H1 hl0 s1 e1=>?_]];have e1:H1 l0=⇑(.lst [V.int (c%8),V.int (c / 8%8),V.int (c / 8 / 8%26),V.int (c / 8 / 8 / 26%5)]):=e1;have s0:aB H H1:=(aB.new hp)\s1;have b0:=cq c 8 #[];have b1:=cq (c / 8) 8 #[];have b3:=cq (c / 8 / 8 / 26) 5 #[];generalize c%8=d0 at e1 b0;generalize c / 8%8=d1 at e1 b1;generalize c / 8 / 8 / 26%5=d3 at e1 b3;generalize c / 8 / 8%26=d2 at e1;have ba:=cq d1 (1+d0) ∅;generalize hat:d1%(1+d0)=at_ at ba;let#[f,hf,hfl]:=yw b3.1 b3.2;show#[5,l0,35,aG.of e1,aP,19,?_];show#[5,l0,35,aG.of e1,211,(show(0:Int)<1+d0 by lia),?_];rw[hat];show#[5,l0,35,aG.of e1,99,lq,hf,?_];show#[cM,λl hl=>?_];generalize e:upd H1 l _=H2;have ⟨s2,e2⟩:=nw e hl;show#[21,∅,∅,(let Jv1:Nat->St->Hp->Prop:=λi σ H'=>∃(v7 v8:Kd V),σ=[⇑(.int c),⇑(.int m),⇑↥l0,⇑(.int (1+d0)),⇑(.int at_),⇑(.str #[(List.toArray [f])]),⇑↥l,v7,v8]/\aB H1 H'/\H' l=⇑(.lst (((List.range i).map λk=>tx (fQ f at_.toNat (1+d0 - 1 - at_).toNat d2 k)).map V.str)); k9 (lo:=0) (n:=(m:Int).toNat) Jv1 #[9,s2,e2] ?_ ?_)]
   . rintro i σ H' hi ⟨v7,v8,rfl,s3,e3⟩;have b2:=cq (d2+(0+(i:Int))) 26 #[];show#[5,l0,35,aG.of (s3 _ _ e1),3379,(show(0:Int)<26 by decide),35,lf,K14.let_at b2.1 b2.2,?_];have w1:∀n:Nat,n<=8->Str.length ⟨(List.replicate n f).toArray⟩=n:=λn _=>by show((List.replicate n f).toArray).size=n; simp
     show#[5,.inl #[6,aG.of e3],21,f,at_,7,∅,∅,83,?_,21715,f,11,∅,∅,19,?_,l,19,e3,ay (by rw[Go,Go,List.length_range]; lia),9,s3.upd hl,?_]
     . rw[w1 _ ∅];show at_.toNat+1<=sizeLine;exact IE (ay ∅)
     . rw[Str.length_append,w1 _ ∅,w1 _ ∅];show at_.toNat+1+_<=sizeLine;exact IE (ay ∅)
     . rw[aI,List.range_succ,Gy,Gy];refine HY some (HY HO.lst (HY (_++·) (HY (λy=>[V.str y]) (K14.str_ext ?_))));rw[om,Int.zero_add];show(((List.replicate at_.toNat f).toArray++(List.toArray [97+((d2+(i:Int))%26).toNat])++(List.replicate (1+d0 - 1 - at_).toNat f).toArray).toList)=_;unfold fQ;simp
   . rintro σ H' ⟨v7,v8,rfl,s3,e3⟩;rw[Hm] at e3;show#[5,q l H' _ (s0.free hl) (s0\s3) e3 0xA #[nodup_range λj k hj hk z=>BN ∅ ∅ (zh z),λn hn=>?_]];let#[k,_,rfl]:=HX.mp hn;show#[5,D1 hfl,by rw[tZ]; lia,by rw[tZ]; lia]
def iO:FnScope ["_law_number","_law_names","_law_many","_law_found","_law_k","_law_which"] ["_law_number","_law_names","_law_many"] (ac j'):=by walk_at "s"
def uS (T:Txt K mg t):FnOk P w K mg base CX0 1 t.vm t.xK ["_law_number","_law_names","_law_many"] (Eg K):=by
 refine T.pM.F.ok iO (λvs H Q E h=>?_) (λcdv A outer s H vs Q E hr h=>?_)
 . let#[_,_,_,_,rfl,_]:=h;rfl
 . skip
   refine lx ?_;intro XX;refine(let W2:TS:=_; have hW2:aV XX ((aU j').drop 2) W2:=(~~~(bQ (aC 3>=>aC 0>=>aH))); ?_);let#[n,a,ns,m,rfl,ha,hlen,hm,q]:=h;show#[_,(aK (@aa _ _ 3 _ _ _ _ iO.nd rfl 0x3 (bI aH) 0x1 0x5) (aK (cG PassesOwn.never rfl (lF rfl T.b_range (aC 2>=>aH)) (au (i:=4) iO.nd rfl 0x3) (aK (@aa _ _ 5 _ _ _ _ iO.nd rfl 0x3 (bq cN<$>aC 0<*>(c9 cV<$>(bY 0x9 0x1 T.b_len cL (aC 1>=>aH))<*>aF)) 0x1 0x5) (aK (@aa _ _ 0 _ _ _ _ iO.nd rfl 0x3 (bq eG<$>aC 0<*>(c9 cV<$>(bY 0x9 0x1 T.b_len cL (aC 1>=>aH))<*>aF)) 0x1 0x5) (@aO _ _ _ (ah (bX (c9 g9) (aC 5) (bY 0x9 0x1 T.b_len cL (aC 1>=>aH)) (aY _)) (@aO _ _ _ (@bK _ _ _ _ (br HK HP HQ cu (aC 3) ((aM 0x4 (aC 1) (aC 5) 0x0)>=>aH)) 0x1)) (aK (@bK _ _ _ _ (br HK HP HQ cu (aC 3) ((bq cN<$>aC 0<*>(aM 0x4 (bI (aF>=>(bq j5<$>aF<*>aF)>=>aH)) (c9 dS<$>aC 5<*>(bY 0x9 0x1 T.b_len cL (aC 1>=>aH))) 0x0))>=>aH)) 0x1) (@aO _ _ _ (@aa _ _ 0 _ _ _ _ iO.nd rfl 0x3 (bq eG<$>aC 0<*>(aM 0x4 (bI (aF>=>(bq j5<$>aF<*>aF)>=>aH)) (c9 dS<$>aC 5<*>(bY 0x9 0x1 T.b_len cL (aC 1>=>aH))) 0x0)) 0x1 0x5)))))))) hW2)),?_];show#[cM,λl hl=>?_];generalize e:upd H l _=H1;have ⟨s1,e1⟩:=nw e hl;show#[21,∅,∅,(let Jv1:Nat->St->Hp->Prop:=λi σ H'=>∃(n':Int) (us:List V) (v4 v5:Kd V),σ=[⇑(.int n'),⇑↥a,⇑(.int m),⇑↥l,v4,v5]/\aB H H'/\H' l=⇑(.lst us)/\us.length=i/\∀v∈us,cp ns v; k9 (lo:=0) (n:=(m:Int).toNat) Jv1 #[n,[],9,s1,e1,rfl,λv hv=>absurd hv Hh] ?_ ?_)]
   . rintro i σ H' hi ⟨n',us,v4,v5,rfl,s2,e2,lu,hus⟩;have eL:((ns.map V.str).length:Int)=(ns.length:Int):=by rw[Go]
     have hp:(0:Int)<(ns.map V.str).length+2:=by lia
     have hp2:((ns.map V.str).length:Int)+2<2 ^ 64:=by lia
     have b:=cq n' ((ns.map V.str).length+2) hp;show#[21,a,5,.inl (s2.seq ha),307,hp,?_];show#[21,a,5,.inl (s2.seq ha),307,#[hp,hp2],?_];show#[21,a,5,.inl (s2.seq ha),77,?_];generalize n' / (((ns.map V.str).length:Nat)+2:Int)=n1;generalize hw:n'%(((ns.map V.str).length:Nat)+2:Int)=wh at b;by_cases h1:wh<((ns.map V.str).length:Int)
     . refine ao (HJ h1) ?_;let#[v,hv,hvm]:=gR (xs:=ns.map V.str) b.1 h1;let#[s,hs,rfl]:=HX.mp hvm;show#[5,.inl #[6,aG.of e2],21,a,35,s2.seq ha,hv,l,19,e2,ay ∅,n1,us++[V.str s],9,s2.upd hl,aI,by rw[Gv,lu]; rfl,λv hv=>?_];rcases HW.mp hv with hv|hv
       . exact hus v hv
       . rw[HG.mp hv]; exact .inr #[s,rfl,hs]
     . refine ai (λz=>h1 (Ht z)) ?_;obtain⟨z,hz,hz0,hz1⟩:∃z:Int,bD [V.int 4,V.int (2 ^ (48:Int).toNat)] (wh - ((ns.map V.str).length:Nat))=⇑(.int z)/\0<z/\z<=281474976710656:=by
         obtain h|h:wh - ((ns.map V.str).length:Nat)=0\/wh - ((ns.map V.str).length:Nat)=1:=by lia
         . rw[h]; show#[(4),rfl,#[],#[]]
         . rw[h]; show#[5,#[],#[]]
       show#[5,.inl #[6,aG.of e2],83,#[#[],#[],#[]],bE,λp hp=>?_];have np:p≠l:=λz=>by rw[z,e2] at hp; cases hp
       have s3:=s2.upd (p:=p) (o:=.lst [V.int 4,V.int (2 ^ (48:Int).toNat)]) (s2.free hp);show#[21,a,5,.inl (s3.seq ha),19,p,35,aG.of aI,hz,19,hz0,l,us,11,by rw[aJ np.symm]; exact e2,ay ∅,?_];have bz:=cq n1 z hz0;have s4:=s3.upd (p:=l) (o:=.lst (us++[V.int (n1%z)])) hl;have e4:=aI (H:=upd H' p (.lst [V.int 4,V.int (2 ^ (48:Int).toNat)])) (a:=l) (o:=.lst (us++[V.int (n1%z)]));generalize upd (upd H' p (.lst [V.int 4,V.int (2 ^ (48:Int).toNat)])) l (.lst (us++[V.int (n1%z)]))=H4 at s4 e4 ⊢;show#[83,#[#[],#[],#[]],bE,λp2 hp2=>?_];have np2:p2≠l:=λz=>by rw[z,e4] at hp2; cases hp2
       have s5:=s4.upd (p:=p2) (o:=.lst [V.int 4,V.int (2 ^ (48:Int).toNat)]) (s4.free hp2);show#[21,a,5,.inl (s5.seq ha),19,p2,35,aG.of aI,hz,19,#[hz0,∅],n1 / z,us++[V.int (n1%z)],9,s5,by rw[aJ np2.symm]; exact e4,by rw[Gv,lu]; rfl,λv hv=>?_];rcases HW.mp hv with hv|hv
       . exact hus v hv
       . rw[HG.mp hv]; exact .inl #[5,bz.1,∅]
   . rintro σ H' ⟨n',us,v4,v5,rfl,s2,e2,lu,hus⟩;show#[21,bE,λtp htp=>q l tp _ us n' (s2.free htp) hl (s2\(aB.new htp)) (aB.new htp _ _ e2) aI ∅ hus]
def ic:FnScope ["_law_cells","_law_bound","_law_found","_law_k","_law_cell","_law_number"] ["_law_cells"] (ac jV):=by walk_at "s"
def yV (T:Txt K mg t):FnOk P w K mg base CX0 1 t.wH t.xX ["_law_cells"] (yM K):=by
 refine T.yC.F.ok ic (λvs H Q E h=>?_) (λcdv A outer s H vs Q E hr h=>?_)
 . let#[_,_,rfl,_]:=h;rfl
 . skip
   refine lx ?_;intro XX;refine(let W2:TS:=_; have hW2:aV XX ((aU jV).drop 2) W2:=(aK (cG PassesOwn.never rfl (m5 rfl T.b_enumerate (aC 0>=>aH)) (dR rfl (bV (au (i:=3) ic.nd rfl 0x3) (bV (au (i:=4) ic.nd rfl 0x3) dE))) (aK (@aa _ _ 5 _ _ _ _ ic.nd rfl 0x3 (bq cN<$>(kM<$>(c9 cV<$>(c9 cV<$>(bq cN<$>aC 4<*>aC 1)<*>(bq fS<$>aF<*>aC 3))<*>aF)<*>aF)<*>aC 1) 0x1 0x5) (@aO _ _ _ (@bK _ _ _ _ (br HK HP HQ cu (aC 2) ((bq cN<$>(kM<$>(c9 cV<$>aC 5<*>(bq fS<$>aF<*>aC 3))<*>aF)<*>aC 1)>=>aH)) 0x1)))) (~~~(aC 2))); ?_);let#[a,ns,rfl,ha,hlen,q]:=h;show#[_,(aK (@aa _ _ 1 _ _ _ _ ic.nd rfl 0x3 (kM<$>(c9 dS<$>(kM<$>aF<*>aF)<*>aF)<*>aF) 0x1 0x5) (aK (@aa _ _ 2 _ _ _ _ ic.nd rfl 0x3 (bI aH) 0x1 0x5) hW2)),?_];have hB0:(0:Int)<((2:Int) ^ (61:Int).toNat - 1) ^ (9:Int).toNat:=by decide +kernel
   have hB1:((2:Int) ^ (61:Int).toNat - 1) ^ (9:Int).toNat<2 ^ 600:=by decide +kernel
   show#[19,#[#[],#[],#[]],307,#[#[],#[],by decide +kernel],cM,λl hl=>?_];obtain⟨B,hB⟩:∃B,B=((2:Int) ^ (61:Int).toNat - 1) ^ (9:Int).toNat:=#[5]
   rw[<- hB] at hB0 hB1;generalize e:upd H l _=H1;have ⟨s1,e1⟩:=nw e hl;show#[5,a,rfl,#[_,s1.seq ha],(let Jv1:Nat->St->Hp->Prop:=λi σ H'=>∃(ms:List Int) (v3 v4 v5:Kd V),σ=[⇑↥a,⇑(.int B),⇑↥l,v3,v4,v5]/\aB H H'/\H' l=⇑(.lst (ms.map V.int))/\ms.length=i; lA (xs:=ns.map V.int) Jv1 #[[],8,by rw[hB]; rfl,s1,e1,rfl] ?_ ?_ ?_)]
   . rintro i σ H' hi ⟨ms,v3,v4,v5,rfl,s2,e2,lm⟩;exact s2.seq ha
   . rintro i x σ H' b hx ⟨ms,v3,v4,v5,rfl,s2,e2,lm⟩ hb;let#[z,hzi,hzm,rfl]:=cb hx;have hi:i<ns.length:=(Gq.mp hzi).1;have s3:=s2\(aB.new (o:=.tup [.int i,.int z]) hb);have e3:=aB.new (o:=.tup [.int i,.int z]) hb _ _ e2;show#[b,5,aN.of aI,403,?_];have bz:=cq z B hB0;show#[339,hB0,83,.inl #[#[],#[]],4915,tM (B:=B) ∅ ∅ hB1 #[] #[],83,hB0,?_];have by_:=cq ((z%B+7919 * (i:Int)+11) ^ (29:Int).toNat) B hB0;show#[5,.inl #[6,aG.of e3],339,.inl #[#[],#[]],307,tM (B:=B) ∅ ∅ hB1 #[] #[],83,hB0,l,19,e3,ay (by rw[Go]; lia),ms++[((z%B+7919 * (i:Int)+11) ^ (29:Int).toNat%B+104729 * (i:Int)) ^ (31:Int).toNat%B],17,s3.upd hl,?_,by rw[Gv,lm]; rfl];rw[aI,Gy];rfl
   . rintro σ H' ⟨ms,v3,v4,v5,rfl,s2,e2,lm⟩;show#[5,q l H' ms hl s2 e2 (by rw[lm,Go])]
def Gc:FnScope ["_law_row"] ["_law_row"] (ac iz):=by walk_at "s"
def Ea (T:Txt K mg t):FnOk P w K mg base CX0 1 t.wK t.xa ["_law_row"] (Da K):=by
 refine T.yE.F.ok Gc (λvs H Q E h=>?_) (λcdv A outer s H vs Q E hr h=>?_)
 . let#[_,_,rfl,_]:=h;rfl
 . skip
   refine lx ?_;intro XX;refine(let W4:TS:=_; have hW4:aV XX ((aU iz).drop 4) W4:=(~~~(cc gf 0x1 T.b_list fT ((gL DJ (aC 0) (fN aF) gy)>=>aH))); ?_);refine(let W2:TS:=_; have hW2:aV XX ((aU iz).drop 2) W2:=(aK (ah (bX b7 0x2 aT (aY _)) (~~~(bI (0x2>=>0x2>=>aH))) aj) (aK (ah (bX b7 0x2 aT (aY _)) (~~~(bI (0x2>=>0x2>=>aH))) aj) hW4)); ?_);let#[r,rg,rfl,hr1,hk,q]:=h;show#[_,(aK (ah (bX b7 0x2 aT (aY _)) (~~~(iq<$>(bI (0x2>=>aH))<*>(cc gf 0x1 T.b_list fT (0x2>=>aH)))) aj) (aK (ah (bX b7 0x2 aT (aY _)) (~~~(bI (0x2>=>0x2>=>0x2>=>aH))) aj) hW2)),?_];cases rg with
   | els=>show#[5,r,35,hr1.it,aP,13,iN #[5,r,35,hr1.it,aP,13,iN #[5,r,35,hr1.it,aP,13,iN #[5,r,35,hr1.it,aP,13,iN #[21,fi hr1.it λp2 H4 s4 e4=>#[p2,5,.inr e4,λl hl=>q l _ (s4.free hl) (s4\(aB.new hl)) aI]]]]]]
   | fin=>show#[5,r,35,hr1.it,aP,13,iN #[5,r,35,hr1.it,aP,13,iN #[5,r,35,hr1.it,aP,13,iN #[5,r,35,hr1.it,aP,13,iN #[21,fi hr1.it λp2 H4 s4 e4=>#[p2,5,.inr e4,λl hl=>q l _ (s4.free hl) (s4\(aB.new hl)) aI]]]]]]
   | rg rg =>
     cases rg with
     | out a=>show#[5,r,35,hr1.it,aP,13,iN #[5,r,35,hr1.it,aP,13,iN #[5,r,35,hr1.it,aP,13,iN #[5,r,35,hr1.it,aP,13,iN #[21,fi hr1.it λp2 H4 s4 e4=>#[p2,5,.inr e4,λl hl=>q l _ (s4.free hl) (s4\(aB.new hl)) aI]]]]]]
     | copy x a=>show#[5,r,35,hr1.it,aP,13,iN #[5,r,35,hr1.it,aP,13,iN #[5,r,35,hr1.it,aP,13,iN #[5,r,35,hr1.it,aP,13,iN #[21,fi hr1.it λp2 H4 s4 e4=>#[p2,5,.inr e4,λl hl=>q l _ (s4.free hl) (s4\(aB.new hl)) aI]]]]]]
     | back a=>show#[5,r,35,hr1.it,aP,13,iN #[5,r,35,hr1.it,aP,13,iN #[5,r,35,hr1.it,aP,13,iN #[5,r,35,hr1.it,aP,13,iN #[21,fi hr1.it λp2 H4 s4 e4=>#[p2,5,.inr e4,λl hl=>q l _ (s4.free hl) (s4\(aB.new hl)) aI]]]]]]
     | new x=>show#[5,r,35,hr1.it,aP,13,iN #[5,r,35,hr1.it,aP,13,iN #[5,r,35,hr1.it,aP,13,iN #[5,r,35,hr1.it,aP,13,iN #[21,fi hr1.it λp2 H4 s4 e4=>#[p2,5,.inr e4,λl hl=>q l _ (s4.free hl) (s4\(aB.new hl)) aI]]]]]]
     | ifs a=>show#[5,r,35,hr1.it,aP,13,iN #[5,r,35,hr1.it,aP,13,iN #[5,r,35,hr1.it,aP,13,iN #[5,r,35,hr1.it,aP,13,iN #[21,fi hr1.it λp2 H4 s4 e4=>#[p2,5,.inr e4,λl hl=>q l _ (s4.free hl) (s4\(aB.new hl)) aI]]]]]]
     | whl a=>show#[5,r,35,hr1.it,aP,13,iN #[5,r,35,hr1.it,aP,13,iN #[5,r,35,hr1.it,aP,13,iN #[5,r,35,hr1.it,aP,13,iN #[21,fi hr1.it λp2 H4 s4 e4=>#[p2,5,.inr e4,λl hl=>q l _ (s4.free hl) (s4\(aB.new hl)) aI]]]]]]
     | op x s a b=>show#[5,r,35,hr1.it,aP,13,iN #[5,r,35,hr1.it,aP,13,iP #[5,r,35,hr1.it,13,r,35,hr1.it,13,r,35,hr1.it,rfl,jX,λl hl=>q l _ hl (aB.new hl) aI]]]
     | get x a f=>show#[5,r,35,hr1.it,aP,13,iN #[5,r,35,hr1.it,aP,13,iN #[5,r,35,hr1.it,aP,13,iP #[5,r,35,hr1.it,13,r,35,hr1.it,rfl,bE,λl hl=>q l _ hl (aB.new hl) aI]]]]
     | put a f b=>show#[5,r,35,hr1.it,aP,13,iN #[5,r,35,hr1.it,aP,13,iN #[5,r,35,hr1.it,aP,13,iN #[5,r,35,hr1.it,aP,13,iP #[5,r,35,hr1.it,13,r,35,hr1.it,rfl,bE,λl hl=>q l _ hl (aB.new hl) aI]]]]]
     | call x g p as =>
       show#[5,r,35,hr1.it,aP,13,iP #[5,r,35,hr1.it,rfl,d6,λp1 h1=>?_]];have s1:=aB.new (o:=.lst [V.str x]) h1;show#[5,r,35,s1<*hr1.it,rfl,p,5,.inr (s1<*(hr1.ar x g p as rfl)),λp2 h2=>?_];have s2:=aB.new (o:=.lst as) h2;have h10:=hk x g p as rfl;show#[p1,p2,19,s2 _ _ aI,aI,(by show 1+as.length<=sizeLine; exact IE (ay ∅)),λl hl=>q l _ (s1.free (s2.free hl)) ((s1\s2).trans (aB.new hl)) aI]
def iV:FnScope ["_law_function","_law_args","_law_now","_law_row","_law_part","_law_name","_law_number"] ["_law_function","_law_args"] (ac jJ):=by walk_at "s"
def qo (T:Txt K mg t):FnOk P w K mg base CX0 2 t.wC t.xT ["_law_function","_law_args"] (Ep K):=by
 have QS:=Ea (P:=P) (w:=w) (base:=base) T;refine T.pP.F.ok iV (λvs H Q E h=>?_) (λcdv A outer s H vs Q E hr h=>?_)
 . let#[_,_,_,_,rfl,_]:=h;rfl
 . skip
   refine lx ?_;intro XX;refine(let W2:TS:=_; have hW2:aV XX ((aU jJ).drop 2) W2:=(aK (cG PassesOwn.never rfl (rP true false rfl T.b_zip (0x2>=>aC 1>=>aH)) (dR rfl (bV (au (i:=5) iV.nd rfl 0x3) (bV (au (i:=6) iV.nd rfl 0x3) dE))) (@aO _ _ _ (cQ (bA hr.units) (aC 2) (aC 5) (aC 6) 0x1))) (~~~(bI (aC 0>=>aF>=>aC 2>=>aH)))); ?_);let#[F,rgs,ar,vals,rfl,hF,har,hlen,hvi,q]:=h;show#[_,(aK (@aa _ _ 2 _ _ _ _ iV.nd rfl 0x3 eV 0x1 0x5) (aK (cG PassesOwn.never rfl (iu 0x2) (au (i:=3) iV.nd rfl 0x3) (@aO _ _ _ (cG PassesOwn.never rfl (di (b8 T.yE QS (hr*>#[]) (aC 3>=>aH))) (au (i:=4) iV.nd rfl 0x3) (@aO _ _ _ (ah (hU (bY gF 0x1 T.b_isinstance gZ (aC 4>=>(gM (v:=V.ty "str") rfl T.b_str ja rfl)>=>aH))) (@aO _ _ _ (cQ (bA hr.units) (aC 2) (aC 4) aF 0x1)) aj))))) hW2)),?_];intro d hd;generalize e:upd H d _=H1;have ⟨s1,e1⟩:=nw e hd;have dP:=hF.at_.fn;have hrw:=hF.at_.rw_;have hln:=hF.len;have hsm:=hF.small;show#[5,F.fa,35,s1<*dP,rfl,F.ra,rfl,#[_,s1<*hrw],(let Jv1:Nat->St->Hp->Prop:=λi σ H'=>∃v3 v4:Kd V,σ=[⇑↥F.fa,⇑↥ar,⇑↥d,v3,v4,none,none]/\aB H H'/\H' d=⇑(.dK ((rgs.take i).foldl (λd rg=>(RH.parts rg).foldl cO d) [])); nH (xs:=F.rs.map λr=>V.ref r.r) Jv1 #[9,s1,e1] ?_ ?_ ?_)]
   . rintro i σ H2 hi ⟨v3,v4,rfl,s2,e2⟩;exact s2<*hrw
   . rintro i x0 σ H2 hx ⟨v3,v4,rfl,s2,e2⟩;let#[rw_,hr,hrm,rfl]:=cb hx;have hi:i<rgs.length:=by have:=(Gq.mp hr).1; lia
     obtain⟨rg,hrg⟩:∃rg,rgs[i]?=⇑rg:=#[_,HN hi]
     have hm:=He hrg;have ok:=hF.ok rg hm;have hq:=(hF.row i rw_ rg hr hrg)*>s2;have hk0:=kf (rgs.take i) [] (λr h=>hF.ok r (Ir h));rw[Hl] at hk0;generalize hke:(rgs.take i).foldl (λd rg=>(RH.parts rg).foldl cO d) []=k0 at e2 hk0;simp only[Ih] at hk0;have kd:∀x g p as,rg=.rg (.call x g p as)->as.length<=10:=λx g p as z=>by subst z; exact(RG.Ok.cl ok x g p as rfl).2
     show#[5,rw_.r,rg,rfl,hq,kd,λpl H3 hpl s3 e3=>#[pl,rfl,#[_,aG.of e3],(let Jv2:Nat->St->Hp->Prop:=λj σ H'=>∃v4:Kd V,σ=[⇑↥F.fa,⇑↥ar,⇑↥d,⇑↥rw_.r,v4,none,none]/\aB H H'/\H' pl=⇑(.lst rg.parts)/\H' d=⇑(.dK ((rg.parts.take j).foldl cO k0)); gX (xs:=rg.parts) Jv2 #[5,s2\s3,e3,s3 _ _ e2] ?_ ?_ ?_)]]
     . rintro j σ H4 hj ⟨v4,rfl,s4,e4,d4⟩;exact aG.of e4
     . rintro j x σ H4 hx ⟨v4,rfl,s4,e4,d4⟩;have hstep:(rg.parts.take (j+1)).foldl cO k0=cO ((rg.parts.take j).foldl cO k0) x:=by rw[Hz,hx,IC]; rfl
       have np:pl≠d:=λz=>by rw[z,d4] at e4; cases e4
       have lk:((rg.parts.take j).foldl cO k0).length<1000000:=by
         have l1:=oP (rg.parts.take j) k0;have l2:=nR ok;rw[Hl] at l1
         lia
       rcases ok.at_ x (He hx) with⟨n,rfl,_⟩|⟨z,rfl⟩
       . show#[10,"str",_,true,rfl,.str _,13,gw #[21,d,5,bo.k (k:=0xC) d4 (ay lk),5,s4.upd hd,by rw[aJ np]; exact e4,?_]];rw[aI,hstep];rfl
       . show#[10,"str",_,false,rfl,.int _,13,gB #[5,s4,e4,?_]];rw[hstep];exact d4
     . rintro σ H4 ⟨v4,rfl,s4,e4,d4⟩;show#[9,s4,?_];rw[d4,IZ (Gw _),Hz,hrg,IC,hke];rfl
   . rintro σ H2 ⟨v3,v4,rfl,s2,e2⟩;rw[Go,hln,IZ (Gw _)] at e2;have hpr:=hF.at_.pr;have hk0:=kf rgs [] hF.ok;have hbg:iQ rgs F.ps vals=(F.ps.zip vals).foldl (λd p=>aQ d (Sum.inr p.1:aE) p.2) (rgs.foldl (λd rg=>(RH.parts rg).foldl cO d) []):=rfl;generalize rgs.foldl (λd rg=>(RH.parts rg).foldl cO d) []=k0 at e2 hk0 hbg;simp only[Ih] at hk0;have hpl:=hF.pl;show#[5,F.fa,35,s2<*dP,13,F.pa,ar,rfl,#[_,s2<*hpr],#[_,s2.seq har],(let Jv3:Nat->St->Hp->Prop:=λi σ H'=>∃v5 v6:Kd V,σ=[⇑↥F.fa,⇑↥ar,⇑↥d,v3,v4,v5,v6]/\aB H H'/\H' d=⇑(.dK (((F.ps.zip vals).take i).foldl (λd p=>aQ d (Sum.inr p.1:aE) p.2) k0)); r9 (b1:=true) (b2:=false) (xs:=F.ps.map V.str) (ys:=vals) Jv3 #[9,s2,e2] ?_ ?_ ?_)]
     . rintro i σ H' hi ⟨v5,v6,rfl,s5,e5⟩;show#[s5<*hpr,s5.seq har]
     . rintro i x y σ H' b hx hy ⟨v5,v6,rfl,s5,e5⟩ hb;let#[n,hn,hnm,rfl]:=cb hx;have s6:=aB.new (o:=.tup [.str n,y]) hb;have lz:(((F.ps.zip vals).take i).foldl (λd p=>aQ d (Sum.inr p.1:aE) p.2) k0).length<1000000:=by
         refine Ib (hJ (λp:Str×V=>((Sum.inr p.1:aE),p.2)) ((F.ps.zip vals).take i) k0) ?_;rw[Hl,J0]
         lia
       show#[b,5,aN.of aI,25813,d,5,bo.k (k:=0xC) (s6 _ _ e5) (ay lz),9,(s5\s6).upd hd,?_];have hz:(F.ps.zip vals)[i]?=⇑(n,y):=Io.mpr #[hn,hy];rw[aI,Hz,IC,hz];rfl
     . rintro σ H' ⟨v5,v6,rfl,s5,e5⟩;rw[IZ (by rw[J0,Go]; exact Gw _),<- hbg] at e5;show#[21,jX,λl hl=>q l d _ _ (s5.free hl) hd (λz=>by rw[z,e5] at hl; cases hl) (s5\(aB.new hl)) aI (aB.new hl _ _ e5) (CD hF hvi hlen)]
def eM:FnScope ["_law_number","_law_names","_law_fields","_law_shapes","_law_kind","_law_x","_law_atoms_here","_law_f","_law_name","_law_folded","_law_params","_law_sign","_law_some"] ["_law_number","_law_names","_law_fields","_law_shapes"] (ac eB):=by walk_at "s"
def EB (T:Txt K mg t):FnOk P w K mg base CX0 2 t.wD t.xU ["_law_number","_law_names","_law_fields","_law_shapes"] (yh K):=by
 have Qn:=uS (P:=P) (w:=w) (base:=base) T;refine T.xz.F.ok eM (λvs H Q E h=>?_) (λcdv A outer s H vs Q E hr h=>?_)
 . let#[_,_,_,_,_,_,_,rfl,_]:=h;rfl
 . skip
   refine lx ?_;intro XX;refine(let W9:TS:=_; have hW9:aV XX ((aU eB).drop 9) W9:=(~~~(@aM _ _ _ _ _ _ _ 0x4 (iq<$>aC 12<*>(@bI _ _ _ _ (@af _ _ _ _ _ (@bQ _ _ _ _ _ (@af _ _ _ _ _ aT (@af _ _ _ _ _ (aC 5) (@af _ _ _ _ _ (@aM _ _ _ _ _ _ _ 0x4 (aC 6) aF 0x0) (@af _ _ _ _ _ (aC 7) aH 0x1) 0x1) 0x1) 0x1)) (@af _ _ _ _ _ (@bQ _ _ _ _ _ (@af _ _ _ _ _ aT (@af _ _ _ _ _ (@aM _ _ _ _ _ _ _ 0x4 (aC 6) aF 0x0) (@af _ _ _ _ _ (aC 7) (@af _ _ _ _ _ (@aM _ _ _ _ _ _ _ 0x4 (aC 6) aF 0x0) aH 0x1) 0x1) 0x1) 0x1)) (@af _ _ _ _ _ (@bQ _ _ _ _ _ (@af _ _ _ _ _ aT (@af _ _ _ _ _ (@aM _ _ _ _ _ _ _ 0x4 (aC 6) aF 0x0) aH 0x1) 0x1)) aH 0x1) 0x1) 0x1))) (aC 4) 0x0)); ?_);refine(let W8:TS:=_; have hW8:aV XX ((aU eB).drop 8) W8:=(@aK _ _ _ _ _ (@aa _ _ 12 _ _ _ _ eM.nd rfl 0x3 (@bI _ _ _ _ (@af _ _ _ _ _ (@bQ _ _ _ _ _ (@af _ _ _ _ _ aT (@af _ _ _ _ _ (aC 5) (@af _ _ _ _ _ (@aM _ _ _ _ _ _ _ 0x4 (aC 6) aF 0x0) aH 0x1) 0x1) 0x1)) (@af _ _ _ _ _ (@bQ _ _ _ _ _ (@af _ _ _ _ _ aT (@af _ _ _ _ _ (aC 5) (@af _ _ _ _ _ (aC 11) (@af _ _ _ _ _ (@aM _ _ _ _ _ _ _ 0x4 (aC 6) aF 0x0) (@af _ _ _ _ _ (@aM _ _ _ _ _ _ _ 0x4 (aC 6) aF 0x0) aH 0x1) 0x1) 0x1) 0x1) 0x1)) (@af _ _ _ _ _ (@bQ _ _ _ _ _ (@af _ _ _ _ _ aT (@af _ _ _ _ _ (aC 5) (@af _ _ _ _ _ (aC 11) (@af _ _ _ _ _ (@aM _ _ _ _ _ _ _ 0x4 (aC 6) aF 0x0) (@af _ _ _ _ _ (@aM _ _ _ _ _ _ _ 0x4 (aC 6) aF 0x0) aH 0x1) 0x1) 0x1) 0x1) 0x1)) (@af _ _ _ _ _ (@bQ _ _ _ _ _ (@af _ _ _ _ _ aT (@af _ _ _ _ _ (aC 5) aH 0x1) 0x1)) aH 0x1) 0x1) 0x1) 0x1)) 0x1 0x5) hW9); ?_);refine(let W7:TS:=_; have hW7:aV XX ((aU eB).drop 7) W7:=(@aK _ _ _ _ _ (@ah _ _ _ _ _ _ _ _ (@bX _ _ _ _ _ _ _ _ (c9 i') (aC 4) aF (aY _)) (~~~(@bQ _ _ _ _ _ (@af _ _ _ _ _ aT (@af _ _ _ _ _ (aC 5) (@af _ _ _ _ _ (aC 8) (@af _ _ _ _ _ (cc oI 0x1 T.b_tuple mx (@af _ _ _ _ _ (@gL _ _ _ _ _ _ _ _ _ _ gt (aC 6) gy (fN (bY 0x9 0x1 T.b_len cL (@af _ _ _ _ _ (aC 10) aH 0x1)))) aH 0x1)) aH 0x1) 0x1) 0x1) 0x1))) aj) hW8); ?_);refine(let W6:TS:=_; have hW6:aV XX ((aU eB).drop 6) W6:=(@aK _ _ _ _ _ (@aa _ _ 11 _ _ _ _ eM.nd rfl 0x3 (@aM _ _ _ _ _ _ _ nU aT (bq cN<$>(bq eG<$>aC 0<*>(bY 0x9 0x1 T.b_len cL (@af _ _ _ _ _ (aC 3) aH 0x1)))<*>aF) 0x0) 0x1 0x5) hW7); ?_);refine(let W5:TS:=_; have hW5:aV XX ((aU eB).drop 5) W5:=(@aK _ _ _ _ _ (dz (@aM _ _ _ _ _ _ _ 0x4 (aC 3) (bq cN<$>aC 0<*>(bY 0x9 0x1 T.b_len cL (@af _ _ _ _ _ (aC 3) aH 0x1))) 0x0) (dR rfl (bV (au (i:=8) eM.nd rfl 0x3) (bV (au (i:=9) eM.nd rfl 0x3) (bV (au (i:=10) eM.nd rfl 0x3) dE))))) hW6); ?_);refine(let W4:TS:=_; have hW4:aV XX ((aU eB).drop 4) W4:=(@aK _ _ _ _ _ (@aa _ _ 0 _ _ _ _ eM.nd rfl 0x3 (bq eG<$>aC 0<*>(bY 0x9 0x1 T.b_len cL (@af _ _ _ _ _ (aC 2) aH 0x1))) 0x1 0x5) hW5); ?_);refine(let W3:TS:=_; have hW3:aV XX ((aU eB).drop 3) W3:=(@aK _ _ _ _ _ (@aa _ _ 7 _ _ _ _ eM.nd rfl 0x3 (@aM _ _ _ _ _ _ _ 0x4 (aC 2) (bq cN<$>aC 0<*>(bY 0x9 0x1 T.b_len cL (@af _ _ _ _ _ (aC 2) aH 0x1))) 0x0) 0x1 0x5) hW4); ?_);refine(let W2:TS:=_; have hW2:aV XX ((aU eB).drop 2) W2:=(@aK _ _ _ _ _ (dz (b8 T.pM Qn (hr*>#[]) (@af _ _ _ _ _ (bq eG<$>(bq eG<$>aC 0<*>aF)<*>(bY 0x9 0x1 T.b_len cL (@af _ _ _ _ _ (aC 1) aH 0x1))) (@af _ _ _ _ _ (aC 1) (@af _ _ _ _ _ aF aH 0x1) 0x1) 0x1)) (dR rfl (bV (au (i:=6) eM.nd rfl 0x3) (bV (au (i:=0) eM.nd rfl 0x3) dE)))) hW3); ?_);refine(let W1:TS:=_; have hW1:aV XX ((aU eB).drop 1) W1:=(@aK _ _ _ _ _ (@aa _ _ 5 _ _ _ _ eM.nd rfl 0x3 (@aM _ _ _ _ _ _ _ 0x4 (aC 1) (bq cN<$>(bq eG<$>aC 0<*>aF)<*>(bY 0x9 0x1 T.b_len cL (@af _ _ _ _ _ (aC 1) aH 0x1))) 0x0) 0x1 0x5) hW2); ?_);let#[n,nl,fl,sl,ns,fs,shs,rfl,hn,n0,n24,hf,f0,f100,hs,s0,s100,fO,q]:=h;show#[_,(@aK _ _ _ _ _ (@aa _ _ 4 _ _ _ _ eM.nd rfl 0x3 (bq cN<$>aC 0<*>aF) 0x1 0x5) hW1),?_];have pn:(0:Int)<((ns.map V.str).length:Nat):=by rw[Go]; lia
   have pn2:(((ns.map V.str).length:Nat):Int)<2 ^ 64:=by rw[Go]; lia
   have pf:(0:Int)<((fs.map V.str).length:Nat):=by rw[Go]; lia
   have pf2:(((fs.map V.str).length:Nat):Int)<2 ^ 64:=by rw[Go]; lia
   have ps_:(0:Int)<((shs.map λs=>V.ref s.a).length:Nat):=by rw[Go]; lia
   have ps2:(((shs.map λs=>V.ref s.a).length:Nat):Int)<2 ^ 64:=by rw[Go]; lia
   have bk:=cq n 9 #[];have bx:=cq (n / 9) _ pn;let#[vx,hvx,hvm]:=gR (xs:=ns.map V.str) bx.1 bx.2;let#[x,hx,rfl]:=HX.mp hvm;show#[83,(show(0:Int)<9 by decide),339,#[#[],#[]],5,nl,5,.inl hn,19,pn,nl,35,hn,hvx,?_];show#[83,#[#[],#[]],5,nl,5,.inl hn,19,#[pn,pn2],10,nl,ns,(6),rfl,hn,∅,#[],λl tp H1 us n1 htp hl s1 el etp lu hus=>?_];show#[tp,5,aN.of etp,403,?_];have bf:=cq n1 _ pf;let#[vf,hvf,hvfm]:=gR (xs:=fs.map V.str) bf.1 bf.2;let#[f,hff,rfl]:=HX.mp hvfm;have hf1:=s1.seq hf;have hs1:=s1.seq hs;show#[85,fl,5,.inl hf1,19,pf,fl,35,hf1,hvf,?_];show#[21,fl,5,.inl hf1,19,#[pf,pf2],?_];generalize n1 / (((fs.map V.str).length:Nat):Int)=n2;have bs:=cq n2 _ ps_;let#[vs,hvs,hvsm]:=gR (xs:=shs.map λs=>V.ref s.a) bs.1 bs.2;let#[sh,hshm,rfl]:=HX.mp hvsm;have hS:=fO sh hshm;show#[85,sl,5,.inl hs1,19,ps_,sl,35,hs1,hvs,?_];show#[sh.a,5,s1<*hS.it,3219,?_];have b9:=cq (n2 / (((shs.map λs=>V.ref s.a).length:Nat):Int)) 9 #[];let#[g,hg,hgm]:=CZ b9.1 b9.2;show#[21,sl,5,.inl hs1,19,#[ps_,ps2],19,(show(0:Int)<9 by decide),35,0x7,hg,?_];obtain⟨u0,u1,u2,u3,u4,u5,rfl⟩:∃u0 u1 u2 u3 u4 u5,us=[u0,u1,u2,u3,u4,u5]:=by
     match us,lu with
     | [u0,u1,u2,u3,u4,u5],_=>show#[129]
   have a0:=hus u0 0xA;have a1:=hus u1 0xA;show#[333,?_];generalize hk:n%9=k at bk;by_cases hk6:6<k
   . refine ao (HJ hk6) ?_;have hpr:=s1<*hS.pr;have l6:=hS.l6;show#[341,sh.pa,5,.inr hpr,5,l,5,aG.of el,λp hp=>?_];have y1:=aB.new (o:=.lst (cR [u0,u1,u2,u3,u4,u5] none ⇑((sh.ps.map V.str).length:Nat))) hp;have f1:=aI (H:=H1) (a:=p) (o:=.lst (cR [u0,u1,u2,u3,u4,u5] none ⇑((sh.ps.map V.str).length:Nat)));rw[lP _ ∅ (by rw[Go]; show _<=(6:Int); lia),Hm,Go] at y1 f1 ⊢;generalize upd H1 p (.lst ([u0,u1,u2,u3,u4,u5].take sh.ps.length))=H2 at y1 f1 ⊢;show#[p,5,.inl #[aG.of f1,λp2 hp2=>#[gO,λt1 h1=>q t1 _ (.call x sh.nm p2 ([u0,u1,u2,u3,u4,u5].take sh.ps.length)) ?_ ((s1\y1).trans ((aB.new hp2)\(aB.new h1))) #[aN.of aI,λx' g' p' as' z=>?_] #[hx,#[sh,hshm,rfl,?_],λa ha=>hus a (Ir ha)]]]]
     . exact s1.free (y1.free ((aB.new hp2).free h1))
     . cases z;exact aN.of (aB.new h1 _ _ aI)
     . rw[Hl];show min _ 6=_
       lia
   . refine ai (λz=>hk6 (Ht z)) ?_;have z1:aB H H1:=s1;show#[21,l,35,aG.of el,aP,jX,λt1 ht1=>?_];generalize e:upd H1 t1 _=H2;have ⟨y1,f1⟩:=nw e ht1;have el:=y1 _ _ el;have z2:=z1\y1;show#[85,l,35,aG.of el,aP,5,l,35,aG.of el,rfl,nF,λt2 ht2=>?_];generalize e:upd H2 t2 _=H3;have ⟨y2,f2⟩:=nw e ht2;have f1:=y2 _ _ f1;have el:=y2 _ _ el;have z3:=z2\y2;show#[85,l,35,aG.of el,aP,5,l,35,aG.of el,rfl,nF,λt3 ht3=>?_];generalize e:upd H3 t3 _=H4;have ⟨y3,f3⟩:=nw e ht3;have f1:=y3 _ _ f1;have f2:=y3 _ _ f2;have el:=y3 _ _ el;have z4:=z3\y3;show#[5,bE,λt4 ht4=>?_];generalize e:upd H4 t4 _=H5;have ⟨y4,f4⟩:=nw e ht4;have f1:=y4 _ _ f1;have f2:=y4 _ _ f2;have f3:=y4 _ _ f3;have el:=y4 _ _ el;have z5:=z4\y4;show#[gO,λt5 ht5=>?_];generalize e:upd H5 t5 _=H6;have ⟨y5,f5⟩:=nw e ht5;have f1:=y5 _ _ f1;have f2:=y5 _ _ f2;have f3:=y5 _ _ f3;have f4:=y5 _ _ f4;have el:=y5 _ _ el;have z6:=z5\y5;show#[85,l,35,aG.of el,aP,5,gO,λt6 ht6=>?_];generalize e:upd H6 t6 _=H7;have ⟨y6,f6⟩:=nw e ht6;have f1:=y6 _ _ f1;have f2:=y6 _ _ f2;have f3:=y6 _ _ f3;have f4:=y6 _ _ f4;have f5:=y6 _ _ f5;have el:=y6 _ _ el;have z7:=z6\y6;show#[5,l,35,aG.of el,aP,21,l,35,aG.of el,rfl,gO,λt7 ht7=>?_];generalize e:upd H7 t7 _=H8;have ⟨y7,f7⟩:=nw e ht7;have f1:=y7 _ _ f1;have f2:=y7 _ _ f2;have f3:=y7 _ _ f3;have f4:=y7 _ _ f4;have f5:=y7 _ _ f5;have f6:=y7 _ _ f6;have el:=y7 _ _ el;have z8:=z7\y7;show#[5,l,35,aG.of el,aP,bE,λt8 ht8=>?_];generalize e:upd H8 t8 _=H9;have ⟨y8,f8⟩:=nw e ht8;have f1:=y8 _ _ f1;have f2:=y8 _ _ f2;have f3:=y8 _ _ f3;have f4:=y8 _ _ f4;have f5:=y8 _ _ f5;have f6:=y8 _ _ f6;have f7:=y8 _ _ f7;have el:=y8 _ _ el;have z9:=z8\y8;show#[jX,λt9 ht9=>?_];generalize e:upd H9 t9 _=H10;have ⟨y9,f9⟩:=nw e ht9;have f1:=y9 _ _ f1;have f2:=y9 _ _ f2;have f3:=y9 _ _ f3;have f4:=y9 _ _ f4;have f5:=y9 _ _ f5;have f6:=y9 _ _ f6;have f7:=y9 _ _ f7;have f8:=y9 _ _ f8;have el:=y9 _ _ el;have z10:=z9\y9;show#[t5,t9,19,f5,f9,(by show 7<=sizeLine; decide),λr hr=>?_];generalize e:upd H10 r _=H11;have ⟨yr,fr⟩:=nw e hr;obtain rfl|rfl|rfl|rfl|rfl|rfl|rfl:k=0\/k=1\/k=2\/k=3\/k=4\/k=5\/k=6:=by lia
     . show#[5,r,4,↥t1,7,aG.of fr,rfl,q t1 H11 (.copy x u0) (z1.free ht1) (z10\yr) #[aN.of (yr _ _ f1),λ_ _ _ _ z=>by cases z] #[hx,a0]]
     . show#[5,r,4,↥t2,7,aG.of fr,rfl,q t2 H11 (.op x _ u0 u1) (z2.free ht2) (z10\yr) #[aN.of (yr _ _ f2),λ_ _ _ _ z=>by cases z] #[hx,hgm,a0,a1]]
     . show#[5,r,4,↥t3,7,aG.of fr,rfl,q t3 H11 (.op x _ u0 u1) (z3.free ht3) (z10\yr) #[aN.of (yr _ _ f3),λ_ _ _ _ z=>by cases z] #[hx,hgm,a0,a1]]
     . show#[5,r,4,↥t4,7,aG.of fr,rfl,q t4 H11 (.new x) (z4.free ht4) (z10\yr) #[aN.of (yr _ _ f4),λ_ _ _ _ z=>by cases z] hx]
     . show#[5,r,4,↥t6,7,aG.of fr,rfl,q t6 H11 (.get x u0 f) (z6.free ht6) (z10\yr) #[aN.of (yr _ _ f6),λ_ _ _ _ z=>by cases z] #[hx,a0,hff]]
     . show#[5,r,4,↥t7,7,aG.of fr,rfl,q t7 H11 (.put u0 f u1) (z7.free ht7) (z10\yr) #[aN.of (yr _ _ f7),λ_ _ _ _ z=>by cases z] #[a0,hff,a1]]
     . show#[5,r,4,↥t8,7,aG.of fr,rfl,q t8 H11 (.out u0) (z8.free ht8) (z10\yr) #[aN.of (yr _ _ f8),λ_ _ _ _ z=>by cases z] a0]
def gn:FnScope ["_law_cells","_law_names","_law_fields","_law_shapes","_law_last","_law_rows","_law_opened_here","_law_cell","_law_kind","_law_atoms_here","_law_number"] ["_law_cells","_law_names","_law_fields","_law_shapes","_law_last"] (ac eO):=by walk_at "s"
def F6 (T:Txt K mg t):FnOk P w K mg base CX0 3 t.vp t.xM ["_law_cells","_law_names","_law_fields","_law_shapes","_law_last"] (El K):=by
 have Qn:=uS (P:=P) (w:=w) (base:=base) T;have QT:=EB (P:=P) (w:=w) (base:=base) T;refine T.xr.F.ok gn (λvs H Q E h=>?_) (λcdv A outer s H vs Q E hr h=>?_)
 . let#[_,_,_,_,_,_,_,_,_,rfl,_]:=h;rfl
 . skip
   refine lx ?_;intro XX;refine(let W5:TS:=_; have hW5:aV XX ((aU eO).drop 5) W5:=(~~~(cc oI 0x1 T.b_tuple mx (aC 5>=>aH))); ?_);refine(let W4:TS:=_; have hW4:aV XX ((aU eO).drop 4) W4:=(aK (ah (@PW.pt _ _ _ (fV (bX (oV hr.units) (aC 5) (bI aH) (aY _)) (gD (bX mE (aM (show aR _ (aw K) from ax) (aM 0x4 (aC 5) (dG dD aF) 0x0) aF 0x0) aT (aY _))))) (@aO _ _ _ (@bK _ _ _ _ (br HK HP HQ cu (aC 5) ((bQ (aT>=>aC 4>=>aH))>=>aH)) 0x1)) aj) hW5); ?_);refine(let W3:TS:=_; have hW3:aV XX ((aU eO).drop 3) W3:=(aK (@bK _ _ _ _ (br HK JO JP oO (aC 5) ((ie<$>(bI ((bQ (aT>=>aH))>=>aH))<*>(bY 0x9 0x1 T.b_len cL (aC 6>=>aH)))>=>aH)) 0x1) hW4); ?_);refine(let W2_2_1:TS:=_; have hW2_2_1:aV XX ((sB ((sB ((aU eO).getD 2 0xB)).getD 2 0xB)).drop 1) W2_2_1:=(@aO _ _ _ (@bK _ _ _ _ (br HK HP HQ cu (aC 5) ((bQ ((aM 0x4 (aC 6) (dG dD aF) 0x0)>=>(aM 0x4 (aC 9) aF 0x0)>=>aH))>=>aH)) 0x1)); ?_);refine(let W2_2:TS:=_; have hW2_2:aV XX ((sB ((aU eO).getD 2 0xB)).drop 2) W2_2:=(@aO _ _ _ (ah (@PW.pt _ _ _ (fV (bX b7 (aC 8) aF (aY _)) (gD (bX b7 (aC 8) aF (aY _))))) (aK (@bK _ _ _ _ (br HK HP HQ cu (aC 6) ((aM 0x4 (bI (aT>=>aT>=>aH)) (c9 dS<$>aC 8<*>aF) 0x0)>=>aH)) 0x1) hW2_2_1) (@aO _ _ _ (ah (@PW.pt _ _ _ (ge (bX b7 (aC 8) aF (aY _)) (gj (bX (mU hr.units) (gL gt (aC 6) (fN (dG dD aF)) gy) (bI (aT>=>aH)) (aY _))))) (aK (dz aT (iB (aC 6) (dG dD aF) gz)) (@aO _ _ _ (@bK _ _ _ _ (br HK HP HQ cu (aC 5) ((bQ (aT>=>aH))>=>aH)) 0x1))) (@aO _ _ _ (ah (@PW.pt _ _ _ (ge (bX eS (aC 8) (bQ (aF>=>aF>=>aH)) (by with_unfolding_all rfl)) (gj (bX (mF hr.units) (aC 6) (bI aH) (aY _))))) (aK (@bK _ _ _ _ (i3 HK JC JD kh (aC 6)) 0x1) (@aO _ _ _ (@bK _ _ _ _ (br HK HP HQ cu (aC 5) ((bQ (aT>=>aH))>=>aH)) 0x1))) (@aO _ _ _ (ah (bX b7 (aC 8) aF (aY _)) (@aO _ _ _ (@bK _ _ _ _ (br HK HP HQ cu (aC 5) ((bQ (aT>=>(aM 0x4 (aC 9) aF 0x0)>=>aH))>=>aH)) 0x1)) (@aO _ _ _ (@bK _ _ _ _ (br HK HP HQ cu (aC 5) ((b8 T.xz QT (hr*>#[]) ((bq eG<$>aC 7<*>aF)>=>aC 1>=>aC 2>=>aC 3>=>aH))>=>aH)) 0x1)))))))))); ?_);refine(let W2_1:TS:=_; have hW2_1:aV XX ((sB ((aU eO).getD 2 0xB)).drop 1) W2_1:=(aK (dz (b8 T.pM Qn (hr*>#[]) ((bq eG<$>aC 7<*>aF)>=>aC 1>=>aF>=>aH)) (dR rfl (bV (au (i:=9) gn.nd rfl 0x3) (bV (au (i:=10) gn.nd rfl 0x3) dE)))) hW2_2); ?_);refine(let W2:TS:=_; have hW2:aV XX ((aU eO).drop 2) W2:=(aK (cG PassesOwn.never rfl (di (aC 0)) (au (i:=7) gn.nd rfl 0x3) (aK (@aa _ _ 8 _ _ _ _ gn.nd rfl 0x3 (bq cN<$>aC 7<*>aF) 0x1 0x5) hW2_1)) hW3); ?_);refine(let W1:TS:=_; have hW1:aV XX ((aU eO).drop 1) W1:=(aK (@aa _ _ 6 _ _ _ _ gn.nd rfl 0x3 (bI aH) 0x1 0x5) hW2); ?_);let#[cl,nl,fl,sl,cs,ns,fs,shs,lst,rfl,hc,c30,hn,n0,n24,hf,f0,f100,hs,s0,s100,fO,q]:=h;show#[_,(aK (@aa _ _ 5 _ _ _ _ gn.nd rfl 0x3 (bI aH) 0x1 0x5) hW1),?_];show#[cM,λl hl0=>#[cM,λo ho00=>?_]];have hne:l≠o:=K13.nfree (aB.refl _) aI ho00;have ho0:H o=none:=(aB.new hl0).free ho00;have s0':aB H (upd (upd H l (.lst [])) o (.lst [])):=(aB.new hl0)\(aB.new ho00);show#[5,cl,rfl,#[_,s0'.seq hc],(let Jv1:Nat->St->Hp->Prop:=λi σ H2=>dw K H cl nl fl sl l o lst ns fs shs i σ H2; gX (xs:=cs.map V.int) Jv1 #[s0',[],[],[],33,by rw[aJ hne]; exact aI,#[rfl,λi r rh z=>by cases z],aI,K13.good_nil,rfl,(λs h=>by cases h),(λs h=>by cases h)] ?_ ?_ ?_)]
   . rintro i σ H2 hi ⟨s2,_⟩;exact s2.seq hc
   . rintro i x σ H2 hx ⟨s2,rs,rhs,os,v7,v8,v9,v10,rfl,hL,hR,hO,g,hi,hnm,hok⟩;let#[c,hci,hcm,rfl]:=cb hx;have hilt:i<cs.length:=(Gq.mp hci).1;have olen:=g.olen;rw[Go] at olen;have rl:=hR.len;show#[83,(show(0:Int)<16 by decide),?_];show#[83,#[#[],#[]],10,nl,ns,(1),rfl,s2.seq hn,∅,#[],λul tp H3 us n1 htp hul s3 eul etp lu hus=>?_];show#[tp,5,aN.of etp,403,?_];obtain⟨u,rfl⟩:∃u,us=[u]:=by
       match us,lu with
       | [u],_=>show#[u,rfl]
     have hu:cp ns u:=hus u 0xA;have s23:=s2\s3;have hL3:=s3 _ _ hL;have hR3:=hR*>s3;have hO3:=s3 _ _ hO;generalize hk:c%16=k;show#[45,?_];by_cases k1:k=1
     . refine ao (HJ (HY V.int k1)) (gw ?_);show#[5,.inl #[6,aG.of hO3],bE,λp hp=>?_];generalize e:upd H3 p _=H4;have ⟨y4,fp⟩:=nw e hp;show#[83,p,35,aG.of fp,(show bD _ (k - 1)=⇑(.str "if") by rw[k1]; rfl),o,19,y4 _ _ hO3,ay (by rw[K13.opsV_len]; lia),?_];have s5:aB H (upd H4 o (.lst (K13.opsV os++[V.str "if"]))):=(s23\y4).upd ho0;have hO5:(upd H4 o (.lst (K13.opsV os++[V.str "if"]))) o=⇑(.lst (K13.opsV ("if"::os))):=by rw[aI,K13.opsV_cons]
       have hL5:(upd H4 o (.lst (K13.opsV os++[V.str "if"]))) l=⇑(.lst (rs.map V.ref)):=by rw[aJ hne]; exact y4 _ _ hL3
       have hR5:=(hR3*>y4).lst (o:=.lst (K13.opsV os++[V.str "if"])) (y4 _ _ hO3);have hU5:(upd H4 o (.lst (K13.opsV os++[V.str "if"]))) ul=⇑(.lst [u]):=by rw[aJ (K13.nfree (aB.refl _) hO hul).symm]; exact y4 _ _ eul
       generalize upd H4 o (.lst (K13.opsV os++[V.str "if"]))=H5 at s5 hO5 hL5 hR5 hU5 ⊢;show#[5,.inl #[6,aG.of hL5],21,o,35,aG.of hO5,(by rw[K13.opsV_cons]; exact K13.at_last _ _),5,ul,35,aG.of hU5,aP,bE,λr hr=>#[l,19,aB.new hr _ _ hL5,ay (by rw[Go]; lia),?_]];have sr:=aB.new (o:=.tup [V.str "if",u]) hr;have:=dw.close (cl:=cl) (nl:=nl) (fl:=fl) (sl:=sl) (rh:=.rg (.ifs u)) (v7:=⇑(.int c)) (v8:=⇑(.int k)) (v9:=⇑↥ul) (v10:=⇑(.int n1)) hl0 hne (s5\sr) (sr _ _ hL5) (hR5*>sr) #[aN.of aI,λ_ _ _ _ z=>by cases z] (sr _ _ hO5) (g.opn (show K13.isO ("if":Str)=true by decide +kernel)) (λs hs=>(HM.mp hs).elim (λe=>by rw[e]; exact sM) (hnm s)) hok hu;rw[hi] at this;exact this
     refine ai (λz=>k1 (V.int.inj (bT z))) #[45,?_];by_cases k2:k=2
     . refine ao (HJ (HY V.int k2)) ?_;show#[5,.inl #[6,aG.of hO3],bE,λp hp=>?_];generalize e:upd H3 p _=H4;have ⟨y4,fp⟩:=nw e hp;show#[83,p,35,aG.of fp,(show bD _ (k - 1)=⇑(.str "while") by rw[k2]; rfl),o,19,y4 _ _ hO3,ay (by rw[K13.opsV_len]; lia),?_];have s5:aB H (upd H4 o (.lst (K13.opsV os++[V.str "while"]))):=(s23\y4).upd ho0;have hO5:(upd H4 o (.lst (K13.opsV os++[V.str "while"]))) o=⇑(.lst (K13.opsV ("while"::os))):=by rw[aI,K13.opsV_cons]
       have hL5:(upd H4 o (.lst (K13.opsV os++[V.str "while"]))) l=⇑(.lst (rs.map V.ref)):=by rw[aJ hne]; exact y4 _ _ hL3
       have hR5:=(hR3*>y4).lst (o:=.lst (K13.opsV os++[V.str "while"])) (y4 _ _ hO3);have hU5:(upd H4 o (.lst (K13.opsV os++[V.str "while"]))) ul=⇑(.lst [u]):=by rw[aJ (K13.nfree (aB.refl _) hO hul).symm]; exact y4 _ _ eul
       generalize upd H4 o (.lst (K13.opsV os++[V.str "while"]))=H5 at s5 hO5 hL5 hR5 hU5 ⊢;show#[5,.inl #[6,aG.of hL5],21,o,35,aG.of hO5,(by rw[K13.opsV_cons]; exact K13.at_last _ _),5,ul,35,aG.of hU5,aP,bE,λr hr=>#[l,19,aB.new hr _ _ hL5,ay (by rw[Go]; lia),?_]];have sr:=aB.new (o:=.tup [V.str "while",u]) hr;have:=dw.close (cl:=cl) (nl:=nl) (fl:=fl) (sl:=sl) (rh:=.rg (.whl u)) (v7:=⇑(.int c)) (v8:=⇑(.int k)) (v9:=⇑↥ul) (v10:=⇑(.int n1)) hl0 hne (s5\sr) (sr _ _ hL5) (hR5*>sr) #[aN.of aI,λ_ _ _ _ z=>by cases z] (sr _ _ hO5) (g.opn (show K13.isO ("while":Str)=true by decide +kernel)) (λs hs=>(HM.mp hs).elim (λe=>by rw[e]; exact Gb) (hnm s)) hok hu;rw[hi] at this;exact this
     refine ai (λz=>k2 (V.int.inj (bT z))) #[45,?_];by_cases k3:k=3
     . refine ao (HJ (HY V.int k3)) #[85,o,5,aG.of hO3,λp hp=>?_];have y4:=aB.new (o:=.lst (cR (K13.opsV os) ⇑(-1) none)) hp;have fp:=aI (H:=H3) (a:=p) (o:=.lst (cR (K13.opsV os) ⇑(-1) none));rw[zw] at fp y4 ⊢;generalize upd H3 p (.lst (os.head?.toList.map V.str))=H4 at y4 fp ⊢;show#[d6,λp2 hp2=>?_];generalize e:upd H4 p2 _=H5;have ⟨y5,f2⟩:=nw e hp2;have s25:=s23\(y4\y5);have hL5:=(y4\y5) _ _ hL3;have hR5:=hR3*>(y4\y5);have hO5:=(y4\y5) _ _ hO3;have hU5:=(y4\y5) _ _ eul;show#[.list (K13.strsD os.head?.toList),.list (K13.strsD ["if"]),(by unfold bP; show#[p,5,aG.of (y5 _ _ fp),K13.dat_strs _]),(by unfold bP; show#[p2,5,aG.of f2,K13.dat_strs ["if"]]),K13.shaped_strs (λs hs=>hnm s (by
         cases os with
         | nil=>cases hs
         | cons a b=>rw[HG.mp hs]; exact HH)),K13.shaped_strs (λs hs=>by rw[HG.mp hs]; exact sM),5,?_]
       rw[zF];by_cases hif:os.head?=⇑("if":Str)
       . refine ao (HJ hif) ?_;obtain⟨rr,rfl⟩:∃rr,os=("if":Str)::rr:=by
           cases os with
           | nil=>cases hif
           | cons a b=>cases hif; show#[b,rfl]
         show#[21,o,35,hO5,(by rw[K13.opsV_cons]; exact K13.ix_last _ _),?_];have hO6:(upd H5 o (.lst ((K13.opsV ("if"::rr)).set (K13.opsV rr).length (V.str "else")))) o=⇑(.lst (K13.opsV ("else"::rr))):=by rw[aI,K13.opsV_cons,K13.opsV_cons,List.set_append_right _ _ (Gw _),Nat.sub_self]; rfl
         have s6:aB H (upd H5 o (.lst ((K13.opsV ("if"::rr)).set (K13.opsV rr).length (V.str "else")))):=s25.upd ho0;have hL6:(upd H5 o (.lst ((K13.opsV ("if"::rr)).set (K13.opsV rr).length (V.str "else")))) l=⇑(.lst (rs.map V.ref)):=by rw[aJ hne]; exact hL5
         have hR6:=hR5.lst (o:=.lst ((K13.opsV ("if"::rr)).set (K13.opsV rr).length (V.str "else"))) hO5;generalize upd H5 o (.lst ((K13.opsV ("if"::rr)).set (K13.opsV rr).length (V.str "else")))=H6 at hO6 s6 hL6 hR6 ⊢;show#[5,.inl #[6,aG.of hL6],d6,λr hr=>#[l,19,aB.new hr _ _ hL6,ay (by rw[Go]; lia),?_]];have sr:=aB.new (o:=.tup [V.str "else"]) hr;have:=dw.close (cl:=cl) (nl:=nl) (fl:=fl) (sl:=sl) (rh:=.els) (v7:=⇑(.int c)) (v8:=⇑(.int k)) (v9:=⇑↥ul) (v10:=⇑(.int n1)) hl0 hne (s6\sr) (sr _ _ hL6) (hR6*>sr) #[aN.of aI,λ_ _ _ _ z=>by cases z] (sr _ _ hO6) g.els' (λs hs=>(HM.mp hs).elim (λe=>by rw[e]; exact K13.nm_else) (λe=>hnm s (Gz _ e))) hok trivial;rw[hi] at this;exact this
       . refine ai (λz=>hif (Ht z)) ?_;show#[5,bE,λp3 hp3=>#[p3,[V.int 4,V.int 5],rfl,.inr (aN.of aI),29,?_]];generalize e:upd H5 p3 _=H6;have y6:=(nw e hp3).1;have s26:=s25\y6;have hL6:=y6 _ _ hL5;have hR6:=hR5*>y6;have hO6:=y6 _ _ hO5;have hU6:=y6 _ _ hU5;show(if cS (.int k) [V.int 4,V.int 5]=true then _ else _);rw[qu];refine ai (λz=>by have:=Ht z; lia) (gB ?_);show#[45,?_];by_cases k6:k=6
         . refine ao (HJ (HY V.int k6)) ?_;show#[5,.inl #[6,aG.of hL6],5,ul,35,aG.of hU6,aP,bE,λr hr=>#[l,19,aB.new hr _ _ hL6,ay (by rw[Go]; lia),?_]];have sr:=aB.new (o:=.tup [V.str "back",u]) hr;have:=dw.close (cl:=cl) (nl:=nl) (fl:=fl) (sl:=sl) (rh:=.rg (.back u)) (v7:=⇑(.int c)) (v8:=⇑(.int k)) (v9:=⇑↥ul) (v10:=⇑(.int n1)) hl0 hne (s26\sr) (sr _ _ hL6) (hR6*>sr) #[aN.of aI,λ_ _ _ _ z=>by cases z] (sr _ _ hO6) (g.plain K13.back_O K13.back_E K13.back_ne.2) hnm hok (.inl hu);rw[hi] at this;exact this
         . refine ai (λz=>k6 (V.int.inj (bT z))) ?_;show#[5,.inl #[6,aG.of hL6],83,#[#[],#[]],170,nl,fl,sl,ns,fs,shs,rfl,s26.seq hn,n0,n24,s26.seq hf,f0,f100,s26.seq hs,s0,s100,(λx hx=>(fO x hx)*>s26),λr H9 rg hr sr hrg hok2=>#[l,19,sr _ _ hL6,ay (by rw[Go]; lia),?_]];have:=dw.close (cl:=cl) (nl:=nl) (fl:=fl) (sl:=sl) (rh:=.rg rg) (v7:=⇑(.int c)) (v8:=⇑(.int k)) (v9:=⇑↥ul) (v10:=⇑(.int n1)) hl0 hne (s26\sr) (sr _ _ hL6) (hR6*>sr) #[hrg.it,λx g p as z=>hrg.ar x g p as (by cases z; rfl)] (sr _ _ hO6) (oG g hok2) hnm hok (my hok2);rw[hi] at this;exact this
     refine ai (λz=>k3 (V.int.inj (bT z))) (gB ?_);show#[5,bE,λp3 hp3=>#[p3,[V.int 4,V.int 5],rfl,.inr (aN.of aI),29,?_]];generalize e:upd H3 p3 _=H6;have y6:=(nw e hp3).1;have s26:=s23\y6;have hL6:=y6 _ _ hL3;have hR6:=hR3*>y6;have hO6:=y6 _ _ hO3;have hU6:=y6 _ _ eul;show(if cS (.int k) [V.int 4,V.int 5]=true then _ else _);rw[qu];by_cases k45:k=4\/k=5
     . refine ao (HJ k45) #[5,cM,λe he=>#[4,K13.datV_ops (aB.new he _ _ hO6),K13.datV_nil aI,K13.shaped_ops hnm,K13.shaped_nil,5,?_]];generalize e:upd H6 e _=H7;have y7:=(nw e he).1;have s27:=s26\y7;have hL7:=y7 _ _ hL6;have hR7:=hR6*>y7;have hO7:=y7 _ _ hO6;have hU7:=y7 _ _ hU6;by_cases ho:os=[]
       . refine ai (by rw[K13.eqv_ops,HJ ho]; decide) ?_;show#[45,?_];by_cases k6:k=6
         . refine ao (HJ (HY V.int k6)) ?_;show#[5,.inl #[6,aG.of hL7],5,ul,35,aG.of hU7,aP,bE,λr hr=>#[l,19,aB.new hr _ _ hL7,ay (by rw[Go]; lia),?_]];have sr:=aB.new (o:=.tup [V.str "back",u]) hr;have:=dw.close (cl:=cl) (nl:=nl) (fl:=fl) (sl:=sl) (rh:=.rg (.back u)) (v7:=⇑(.int c)) (v8:=⇑(.int k)) (v9:=⇑↥ul) (v10:=⇑(.int n1)) hl0 hne (s27\sr) (sr _ _ hL7) (hR7*>sr) #[aN.of aI,λ_ _ _ _ z=>by cases z] (sr _ _ hO7) (g.plain K13.back_O K13.back_E K13.back_ne.2) hnm hok (.inl hu);rw[hi] at this;exact this
         . refine ai (λz=>k6 (V.int.inj (bT z))) ?_;show#[5,.inl #[6,aG.of hL7],83,#[#[],#[]],170,nl,fl,sl,ns,fs,shs,rfl,s27.seq hn,n0,n24,s27.seq hf,f0,f100,s27.seq hs,s0,s100,(λx hx=>(fO x hx)*>s27),λr H9 rg hr sr hrg hok2=>#[l,19,sr _ _ hL7,ay (by rw[Go]; lia),?_]];have:=dw.close (cl:=cl) (nl:=nl) (fl:=fl) (sl:=sl) (rh:=.rg rg) (v7:=⇑(.int c)) (v8:=⇑(.int k)) (v9:=⇑↥ul) (v10:=⇑(.int n1)) hl0 hne (s27\sr) (sr _ _ hL7) (hR7*>sr) #[hrg.it,λx g p as z=>hrg.ar x g p as (by cases z; rfl)] (sr _ _ hO7) (oG g hok2) hnm hok (my hok2);rw[hi] at this;exact this
       . refine ao (by rw[K13.eqv_ops,Hg ho]; rfl) ?_;obtain⟨oo,rr,rfl⟩:∃oo rr,os=oo::rr:=by
           cases os with
           | nil=>exact absurd rfl ho
           | cons oo rr=>show#[oo,rr,rfl]
         have am:(K13.opsV (oo::rr))[(K13.opsV (oo::rr)).length - 1]?=⇑(V.str oo):=by rw[K13.opsV_cons,Gv,Hr,Nat.add_sub_cancel]; simp
         show#[5,.inl #[6,aG.of hO7],o,19,hO7,am,?_];have hO8:(upd H7 o (.lst (K13.opsV (oo::rr)).dropLast)) o=⇑(.lst (K13.opsV rr)):=by rw[aI,K13.opsV_cons,Jx]
         have s8:aB H (upd H7 o (.lst (K13.opsV (oo::rr)).dropLast)):=s27.upd ho0;have hL8:(upd H7 o (.lst (K13.opsV (oo::rr)).dropLast)) l=⇑(.lst (rs.map V.ref)):=by rw[aJ hne]; exact hL7
         have hR8:=hR7.lst (o:=.lst (K13.opsV (oo::rr)).dropLast) hO7;generalize upd H7 o (.lst (K13.opsV (oo::rr)).dropLast)=H8 at hO8 s8 hL8 hR8 ⊢;show#[5,.inl #[6,aG.of hL8],d6,λr hr=>#[l,19,aB.new hr _ _ hL8,ay (by rw[Go]; lia),?_]];have sr:=aB.new (o:=.tup [V.str "end"]) hr;have:=dw.close (cl:=cl) (nl:=nl) (fl:=fl) (sl:=sl) (rh:=.fin) (v7:=⇑(.int c)) (v8:=⇑(.int k)) (v9:=⇑↥ul) (v10:=⇑(.int n1)) hl0 hne (s8\sr) (sr _ _ hL8) (hR8*>sr) #[aN.of aI,λ_ _ _ _ z=>by cases z] (sr _ _ hO8) g.fin (λs hs=>hnm s (Gz _ hs)) hok trivial;rw[hi] at this;exact this
     refine ai (λz=>k45 (Ht z)) (gB ?_);show#[45,?_];by_cases k6:k=6
     . refine ao (HJ (HY V.int k6)) ?_;show#[5,.inl #[6,aG.of hL6],5,ul,35,aG.of hU6,aP,bE,λr hr=>#[l,19,aB.new hr _ _ hL6,ay (by rw[Go]; lia),?_]];have sr:=aB.new (o:=.tup [V.str "back",u]) hr;have:=dw.close (cl:=cl) (nl:=nl) (fl:=fl) (sl:=sl) (rh:=.rg (.back u)) (v7:=⇑(.int c)) (v8:=⇑(.int k)) (v9:=⇑↥ul) (v10:=⇑(.int n1)) hl0 hne (s26\sr) (sr _ _ hL6) (hR6*>sr) #[aN.of aI,λ_ _ _ _ z=>by cases z] (sr _ _ hO6) (g.plain K13.back_O K13.back_E K13.back_ne.2) hnm hok (.inl hu);rw[hi] at this;exact this
     . refine ai (λz=>k6 (V.int.inj (bT z))) ?_;show#[5,.inl #[6,aG.of hL6],83,#[#[],#[]],170,nl,fl,sl,ns,fs,shs,rfl,s26.seq hn,n0,n24,s26.seq hf,f0,f100,s26.seq hs,s0,s100,(λx hx=>(fO x hx)*>s26),λr H9 rg hr sr hrg hok2=>#[l,19,sr _ _ hL6,ay (by rw[Go]; lia),?_]];have:=dw.close (cl:=cl) (nl:=nl) (fl:=fl) (sl:=sl) (rh:=.rg rg) (v7:=⇑(.int c)) (v8:=⇑(.int k)) (v9:=⇑↥ul) (v10:=⇑(.int n1)) hl0 hne (s26\sr) (sr _ _ hL6) (hR6*>sr) #[hrg.it,λx g p as z=>hrg.ar x g p as (by cases z; rfl)] (sr _ _ hO6) (oG g hok2) hnm hok (my hok2);rw[hi] at this;exact this
   . rintro σ H2 ⟨s2,rs,rhs,os,v7,v8,v9,v10,rfl,hL,hR,hO,g,hi,hnm,hok⟩;rw[Go] at hi;have olen:=g.olen;rw[Go] at olen;have rl:=hR.len;show#[5,.inl #[6,aG.of hL],d6,λtq htq=>?_];generalize e:upd H2 tq _=H3;have ⟨y3,f3⟩:=nw e htq;show#[d6,λp hp=>?_];generalize e:upd H3 p _=H4;have ⟨y4,f4⟩:=nw e hp;have y24:=y3\y4;have lo:=K13.opsV_len os;have fl_:(List.replicate (((K13.opsV os).length:Nat):Int).toNat [V.ref tq]).flatten=(List.replicate os.length tq).map V.ref:=by rw[Hm,lo,IQ,JQ]
     show#[5,o,5,.inl (aG.of (y24 _ _ hO)),p,19,f4,∅,∅,(by rw[Hm]; show 1 * _<=sizeLine; exact IE (ay ∅)),λp2 hp2=>?_];rw[fl_];generalize e:upd H4 p2 _=H5;have ⟨y5,f5⟩:=nw e hp2;have y25:=y24\y5;show#[l,p2,19,y25 _ _ hL,f5,(by rw[Go,Go,IH]; exact IE (ay ∅)),?_];obtain⟨rs6,ers⟩:∃x,x=rs++List.replicate os.length tq:=#[5]
     obtain⟨rhs6,erh⟩:∃x,x=rhs++List.replicate os.length RH.fin:=#[5]
     have hT:RHAt K H5 tq .fin:=#[aN.of (y5 _ _ (y4 _ _ f3)),λ_ _ _ _ z=>by cases z]
     have s6:aB H (upd H5 l (.lst (rs.map V.ref++(List.replicate os.length tq).map V.ref))):=(s2\y25).upd hl0;have hL6:(upd H5 l (.lst (rs.map V.ref++(List.replicate os.length tq).map V.ref))) l=⇑(.lst (rs6.map V.ref)):=by rw[aI,ers,Gy]
     have hR6:RowsH K (upd H5 l (.lst (rs.map V.ref++(List.replicate os.length tq).map V.ref))) rs6 rhs6:=by rw[ers,erh]; exact((hR*>y25).rep hT os.length).lst (y25 _ _ hL)
     generalize upd H5 l (.lst (rs.map V.ref++(List.replicate os.length tq).map V.ref))=H6 at s6 hL6 hR6 ⊢;have g6:K13.Good (rhs6.map RH.kind) []:=by have gE:=g.ends os.length (Gw _);rw[Jf (Gw _)] at gE;rw[erh,Gy,JQ];exact gE
     have hok6:∀rh∈rhs6,gI ns fs shs lst rh:=λx hx=>by
       rw[erh] at hx;rcases HW.mp hx with h|h
       . exact hok x h
       . rw[(J9.mp h).2]; trivial
     have len6:rs6.length=rhs6.length:=hR6.len;have small6:rhs6.length<=60:=by rw[erh,Gv,IH]; lia
     show#[5,cM,λe he=>#[l,e,11,aG.of (aB.new he _ _ hL6),aG.of aI,5,?_]];generalize e:upd H6 e _=H7;have y7:=(nw e he).1;by_cases hz:rs6.map V.ref=[]
     . refine ao (HJ hz) (gw ?_);have aL:=y7 _ _ hL6;show#[5,.inl #[6,aG.of aL],5,bE,λr hr=>?_];have yr:=aB.new (o:=.tup [V.str "back",lst]) hr;have aL2:=yr _ _ aL;show#[l,19,aL2,ay (by rw[Go]; lia),5,l,5,.inl #[aG.of aI,λtr htr=>q tr _ (rs6++[r]) (rhs6++[.rg (.back lst)]) ?_ ?_ ?_ ?_ ?_ ?_ ?_]]
       . exact(((s6\y7).trans yr).upd hl0).free htr
       . exact(((s6\y7).trans yr).upd hl0).trans (aB.new htr)
       . rw[aI,Gy];rfl
       . have hb:RHAt K (upd H7 r (.tup [V.str "back",lst])) r (.rg (.back lst)):=#[aN.of aI,λ_ _ _ _ z=>by cases z]
         exact((((hR6*>y7).mono yr).snoc hb).lst aL2).mono (aB.new htr)
       . rw[Gy];exact g6.back
       . rw[Gv,Hr]
         lia
       . intro x hx;rcases HW.mp hx with h|h
         . exact hok6 x h
         . rw[HG.mp h]; exact .inr rfl
     . refine ai (λz=>hz (Ht z)) ?_;obtain⟨ra,rz,rfl⟩:∃ra rz,rs6=ra++[rz]:=by
         rcases IR rs6 with z|⟨ra,rz,z⟩
         . exact absurd (by rw[z]; rfl) hz
         . show#[ra,rz,by rw[z,IS]]
       obtain⟨ha,hz_,rfl⟩:∃ha hz_,rhs6=ha++[hz_]:=by
         rcases IR rhs6 with z|⟨ha,hz_,z⟩
         . rw[z,Gv] at len6; cases len6
         . show#[ha,hz_,by rw[z,IS]]
       have la:ra.length=ha.length:=↑len6
       have hrz:RHAt K H7 rz hz_:=(hR6.at_ ra.length rz hz_ 0xA (by rw[la]; simp))*>y7;have am:bD ((ra++[rz]).map V.ref) (-1)=⇑↥rz:=by rw[Gy]; exact K13.at_last _ _
       show#[21,l,35,aG.of (y7 _ _ hL6),am,rz,35,hrz.it,RH.item0 hz_,13,?_];by_cases hb:hz_.kind="back"
       . refine ai (by rw[HJ (HY V.str hb)]; decide) ?_;show#[5,l,5,.inl #[aG.of (y7 _ _ hL6),λtr htr=>q tr _ (ra++[rz]) (ha++[hz_]) ((s6\y7).free htr) ((s6\y7).trans (aB.new htr)) aI ((hR6*>y7).mono (aB.new htr)) ?_ ∅ hok6]];rw[Gy] at g6 ⊢;exact CO g6 hb
       . refine ao (by rw[Hg (λz=>hb (V.str.inj z))]; rfl) ?_;generalize cg:ra++[rz]=rs6 at *;generalize hrh:ha++[hz_]=rhs6 at *;have aL:=y7 _ _ hL6;show#[5,.inl #[6,aG.of aL],5,bE,λr hr=>?_];have yr:=aB.new (o:=.tup [V.str "back",lst]) hr;have aL2:=yr _ _ aL;show#[l,19,aL2,ay (by rw[Go]; lia),5,l,5,.inl #[aG.of aI,λtr htr=>q tr _ (rs6++[r]) (rhs6++[.rg (.back lst)]) ?_ ?_ ?_ ?_ ?_ ?_ ?_]]
         . exact(((s6\y7).trans yr).upd hl0).free htr
         . exact(((s6\y7).trans yr).upd hl0).trans (aB.new htr)
         . rw[aI,Gy];rfl
         . have hb:RHAt K (upd H7 r (.tup [V.str "back",lst])) r (.rg (.back lst)):=#[aN.of aI,λ_ _ _ _ z=>by cases z]
           exact((((hR6*>y7).mono yr).snoc hb).lst aL2).mono (aB.new htr)
         . rw[Gy];exact g6.back
         . rw[Gv,Hr]
           lia
         . intro x hx;rcases HW.mp hx with h|h
           . exact hok6 x h
           . rw[HG.mp h]; exact .inr rfl
def dQ:FnScope ["_law_program","_law_seats","_law_k","_law_function","_law_deeper","_law_depth","_law_found","_law_many","_law_row","_law_to","_law_within"] ["_law_program"] (ac da):=by walk_at "s"
def Av (T:Txt K mg t):FnOk P w K mg base CX0 1 t.wN t.xf ["_law_program"] (Fg K):=by
 refine T.yG.F.ok dQ (λvs H Q E h=>?_) (λcdv A outer s H vs Q E hr h=>?_)
 . let#[_,_,rfl,_]:=h;rfl
 . skip
   refine lx ?_;intro XX;refine(let W4:TS:=_; have hW4:aV XX ((aU da).drop 4) W4:=(~~~(aC 4)); ?_);refine(let W3_2:TS:=_; have hW3_2:aV XX ((sB ((aU da).getD 3 0xB)).drop 2) W3_2:=(@aO _ _ _ (@aa _ _ 4 _ _ _ _ dQ.nd rfl 0x3 (aC 6) 0x1 0x5)); ?_);refine(let W3_1_2:TS:=_; have hW3_1_2:aV XX ((sB ((sB ((aU da).getD 3 0xB)).getD 1 0xB)).drop 2) W3_1_2:=(@aO _ _ _ (@bK _ _ _ _ (br HK HP HQ cu (aC 6) (aC 7>=>aH)) 0x1)); ?_);refine(let W3_1_1_1_2:TS:=_; have hW3_1_1_1_2:aV XX ((sB ((sB ((sB ((sB ((aU da).getD 3 0xB)).getD 1 0xB)).getD 1 0xB)).getD 1 0xB)).drop 2) W3_1_1_1_2:=(@aO _ _ _ (@aa _ _ 7 _ _ _ _ dQ.nd rfl 0x3 (c9 cV<$>aC 7<*>(aM 0x4 (bI (aF>=>(aM 0x4 (aC 4) (aC 9) 0x0)>=>aH)) (cc fH 0x1 T.b_int eW (aC 10>=>aH)) 0x0)) 0x1 0x5)); ?_);refine(let W3_1_1_1_1:TS:=_; have hW3_1_1_1_1:aV XX ((sB ((sB ((sB ((sB ((aU da).getD 3 0xB)).getD 1 0xB)).getD 1 0xB)).getD 1 0xB)).drop 1) W3_1_1_1_1:=(aK (@aa _ _ 10 _ _ _ _ dQ.nd rfl 0x3 (gC (dA (c9 i') (aC 5) aF (aY _)) (gC (aM (show aR _ (aw K) from ax) (aM 0x4 (aC 0) (aC 9) 0x0) aF 0x0) (gp (dA (c9 g9) (aC 9) (aC 2) (aY _))))) 0x1 0x5) hW3_1_1_1_2); ?_);refine(let W3_1_1_1:TS:=_; have hW3_1_1_1:aV XX ((sB ((sB ((sB ((aU da).getD 3 0xB)).getD 1 0xB)).getD 1 0xB)).drop 1) W3_1_1_1:=(@aO _ _ _ (ah (bX b7 (aM (show aR _ (aw K) from ax) (aC 8) aF 0x0) aT (aY _)) (aK (@aa _ _ 9 _ _ _ _ dQ.nd rfl 0x3 (cC (bA hr.units) (aC 1) (aM (show aR _ (aw K) from ax) (aC 8) aF 0x0) 0x0) 0x1 0x5) hW3_1_1_1_1) aj)); ?_);refine(let W3_1_1:TS:=_; have hW3_1_1:aV XX ((sB ((sB ((aU da).getD 3 0xB)).getD 1 0xB)).drop 1) W3_1_1:=(aK (cG PassesOwn.never rfl (iu (aM (show aR _ (aw K) from ax) (aC 3) aF 0x0)) (au (i:=8) dQ.nd rfl 0x3) (aK (@aa _ _ 7 _ _ _ _ dQ.nd rfl 0x3 (c9 cV<$>aC 7<*>(cc fH 0x1 T.b_int eW ((dA oN (aM (show aR _ (aw K) from ax) (aC 8) aF 0x0) (bQ (aT>=>aT>=>aH)) (by with_unfolding_all rfl))>=>aH))) 0x1 0x5) hW3_1_1_1)) hW3_1_2); ?_);refine(let W3_1:TS:=_; have hW3_1:aV XX ((sB ((aU da).getD 3 0xB)).drop 1) W3_1:=(aK (cG PassesOwn.never rfl (m5 rfl T.b_enumerate (aC 0>=>aH)) (dR rfl (bV (au (i:=2) dQ.nd rfl 0x3) (bV (au (i:=3) dQ.nd rfl 0x3) dE))) (aK (@aa _ _ 7 _ _ _ _ dQ.nd rfl 0x3 aF 0x1 0x5) hW3_1_1)) hW3_2); ?_);refine(let W3:TS:=_; have hW3:aV XX ((aU da).drop 3) W3:=(aK (cG PassesOwn.never rfl (lF rfl T.b_range (aF>=>aH)) (au (i:=5) dQ.nd rfl 0x3) (aK (@aa _ _ 6 _ _ _ _ dQ.nd rfl 0x3 (bI aH) 0x1 0x5) hW3_1)) hW4); ?_);refine(let W2:TS:=_; have hW2:aV XX ((aU da).drop 2) W2:=(aK (@aa _ _ 4 _ _ _ _ dQ.nd rfl 0x3 (ie<$>(bI (aF>=>aH))<*>(bY 0x9 0x1 T.b_len cL (aC 0>=>aH))) 0x1 0x5) hW3); ?_);refine(let W1:TS:=_; have hW1:aV XX ((aU da).drop 1) W1:=(aK (cG PassesOwn.never rfl (m5 rfl T.b_enumerate (aC 0>=>aH)) (dR rfl (bV (au (i:=2) dQ.nd rfl 0x3) (bV (au (i:=3) dQ.nd rfl 0x3) dE))) (@aO _ _ _ (cQ (bA hr.units) (aC 1) (aM (show aR _ (aw K) from ax) (aC 3) aF 0x0) (aC 2) 0x1))) hW2); ?_);let#[pl,fs,rfl,hp,f0,f40,hf,hci,q]:=h;show#[_,(aK (@aa _ _ 1 _ _ _ _ dQ.nd rfl 0x3 eV 0x1 0x5) hW1),?_];intro d hd;generalize e:upd H d _=H1;have ⟨s1,e1⟩:=nw e hd;show#[5,pl,rfl,#[_,s1.seq hp],(let Jv1:Nat->St->Hp->Prop:=λi σ H'=>∃(kvs:List (aE×V)) (v2 v3:Kd V),σ=[⇑↥pl,⇑↥d,v2,v3,none,none,none,none,none,none,none]/\aB H H'/\H' d=⇑(.dK kvs)/\kvs.length<=i/\∀j f,j<i->fs[j]?=⇑f->∃k:Nat,k<fs.length/\aZ kvs (Sum.inr f.nm:aE)=⇑(.int k); lA (xs:=fs.map λf=>V.ref f.a) Jv1 #[[],9,s1,e1,Gw _,λj f hj=>absurd hj (Iz _)] ?_ ?_ ?_)]
   . rintro i σ H' hi ⟨kvs,v2,v3,rfl,s2,_⟩;exact s2.seq hp
   . rintro i x σ H' b hx ⟨kvs,v2,v3,rfl,s2,e2,lk,hk⟩ hb;let#[f,hfi,hfm,rfl]:=cb hx;have ilt:i<fs.length:=(Gq.mp hfi).1;have yb:=aB.new (o:=.tup [.int i,↥f.a]) hb;have hit:=(s2\yb)<*(hf f hfm).it;have db:d≠b:=λz=>by rw[<- z,e2] at hb; cases hb
     show#[b,5,aN.of aI,403,?_];show#[85,f.a,35,hit,aP,d,5,bo.k (k:=(Sum.inr f.nm:aE)) (yb _ _ e2) (ay ∅),aQ kvs (Sum.inr f.nm:aE) (.int i),9,(s2\yb).upd hd,aI,?_,λj g hj hg=>?_]
     . have:=dN kvs (Sum.inr f.nm:aE) (V.int i)
       lia
     . rw[dj];by_cases z:(Sum.inr g.nm:aE)=Sum.inr f.nm
       . show#[i,ilt,by rw[HI z]]
       . rw[Gu z];have hji:j<i:=by
           rcases Hk j i with h|h
           . exact h
           . have:j=i:=by lia
             subst this;rw[hfi] at hg;cases hg;exact absurd rfl z
         exact hk j g hji hg
   . rintro σ H2 ⟨kvs,v2,v3,rfl,s2,e2,lk,hk⟩;rw[Go] at hk;have hp2:=s2.seq hp;have hf2:∀f∈fs,PfAt K H2 f:=λf h=>(hf f h)*>s2;have key:∀f∈fs,∃k:Nat,k<fs.length/\aZ kvs (Sum.inr f.nm:aE)=⇑(.int k):=λf h=>by let#[j,hj]:=Hy h;exact hk j f (Gq.mp hj).1 hj
     show#[d6,λp hp0=>?_];generalize e:upd H2 p _=H3;have ⟨y3,f3⟩:=nw e hp0;have fl_:(List.replicate (((fs.map λf=>V.ref f.a).length:Nat):Int).toNat [V.int 0]).flatten=(List.replicate fs.length (0:Int)).map V.int:=by rw[Hm,Go,IQ,JQ]
     show#[5,pl,5,.inl (y3.seq hp2),p,19,f3,by rw[Go]; lia,by rw[Go]; lia,(by rw[Hm,Go]; show 1 * _<=sizeLine; exact IE (ay ∅)),λdl0 hdl0=>?_];rw[fl_];have z3:=y3\(aB.new (o:=.lst ((List.replicate fs.length (0:Int)).map V.int)) hdl0);show#[5,#[],#[],(let Jv2:Nat->St->Hp->Prop:=λi σ G=>∃(dl:Kg) (ms:List Int) (v2 v3 v5 v6 v7 v8 v9 v10:Kd V),σ=[⇑↥pl,⇑↥d,v2,v3,⇑↥dl,v5,v6,v7,v8,v9,v10]/\aB H2 G/\G dl=⇑(.lst (ms.map V.int))/\ms.length=fs.length/\H dl=none; k9 (lo:=0) (n:=(3:Int).toNat) Jv2 #[dl0,List.replicate fs.length 0,513,z3,aI,IH,s2.free (y3.free hdl0)] ?_ ?_)]
     . rintro i σ G hi ⟨dl,ms,v2,v3,v5,v6,v7,v8,v9,v10,rfl,y2,hdl,lms,hdn⟩;show#[cM,λl hl=>?_];have hln:H l=none:=s2.free (y2.free hl);show#[5,pl,rfl,#[_,(y2\(aB.new hl)).seq hp2],(let Jv3:Nat->St->Hp->Prop:=λj σ G4=>∃(ns:List Int) (v2 v3 v7 v8 v9 v10:Kd V),σ=[⇑↥pl,⇑↥d,v2,v3,⇑↥dl,⇑(.int (0+(i:Int))),⇑↥l,v7,v8,v9,v10]/\aB G G4/\G4 l=⇑(.lst (ns.map V.int))/\ns.length=j; lA (xs:=fs.map λf=>V.ref f.a) Jv3 #[[],129,aB.new hl,aI,rfl] ?_ ?_ ?_)]
       . rintro j σ G4 hj ⟨ns,v2,v3,v7,v8,v9,v10,rfl,y4,_⟩;exact(y2\y4).seq hp2
       . rintro j x σ G4 b hx ⟨ns,v2,v3,v7,v8,v9,v10,rfl,y4,hl4,lns⟩ hb;let#[f,hfj,hfm,rfl]:=cb hx;have jlt:j<fs.length:=(Gq.mp hfj).1;show#[b,5,aN.of aI,403,?_];generalize e:upd G4 b _=G5;have y5:=(nw e hb).1;have z5:=(y2\y4).trans y5;have hF:=(hf2 f hfm)*>z5;show#[5,f.a,35,hF.it,rfl,f.ra,rfl,#[_,hF.rt],(let Jv4:Nat->St->Hp->Prop:=λm σ G6=>∃(z:Int) (v8 v9 v10:Kd V),σ=[⇑↥pl,⇑↥d,⇑(.int j),⇑↥f.a,⇑↥dl,⇑(.int (0+(i:Int))),⇑↥l,⇑(.int z),v8,v9,v10]/\aB G5 G6; nH (xs:=f.rs.map V.ref) Jv4 #[(0),17,aB.refl _] ?_ ?_ ?_)]
         . rintro m σ G6 hm ⟨z,v8,v9,v10,rfl,y6⟩;exact y6<*hF.rt
         . rintro m x σ G6 hx ⟨z,v8,v9,v10,rfl,y6⟩;let#[r,hrm,hrmem,rfl]:=cb hx;have lrr:=hF.rw_.len;have mlt:m<f.rhs.length:=by have:=(Gq.mp hrm).1; lia
           have hrh:f.rhs[m]?=some f.rhs[m]:=HN mlt;have hrow:=(hF.rw_.at_ m r _ hrm hrh)*>y6;have hmem:f.rhs[m]∈f.rhs:=J5 mlt;generalize f.rhs[m]=rh at hrow hmem;show#[21,r,35,hrow.it,RH.item0 rh,bE,λtp htp=>#[tp,5,.inr (aN.of aI),7,.inr #[83,?_]]];generalize e:upd G6 tp _=G7;have y7:=(nw e htp).1;have hrow7:=hrow*>y7;show#[5,r,35,hrow7.it,RH.item0 rh,13,?_];by_cases hcl:rh.kind="call"
           . refine ao (HJ (HY V.str hcl)) ?_;let#[x,g,pa,as,rfl]:=sT hcl;let#[f',hf',hnm,_]:=hci f hfm _ hmem x g pa as rfl;let#[k,klt,hval]:=key f' hf';rw[hnm] at hval;have z7:=(z5\y6).trans y7;show#[21,r,35,hrow7.it,rfl,d,.int k,rfl,ck (z7 _ _ e2) hval,?_];have hfk:fs[k]?=some fs[k]:=HN klt;have htk:bD (fs.map λf=>V.ref f.a) (k:Int)=⇑(.ref fs[k].a):=jo ∅ (by rw[Hm]; exact hfk);have hFk:=(hf2 fs[k] (J5 klt))*>z7;obtain⟨mt,hmt⟩:∃mt:Int,bD (ms.map V.int) (k:Int)=⇑(.int mt):=#[ms[k],jo ∅ (by rw[Hm]; exact HN ∅)]
             show#[333,?_];by_cases hdp:(0:Int)<0+(i:Int)
             . refine ao (HJ hdp) #[21,pl,35,z7.seq hp2,htk,fs[k].a,35,hFk.it,13,?_];by_cases hfo:fs[k].fo=true
               . refine ao hfo #[339,?_];generalize decide ((k:Int)<(j:Int))=w9;obtain⟨y,hy⟩:∃y:Int,bD [V.int 1,V.int mt] (if w9=true then 1 else 0)=⇑(.int y):=by
                   cases w9
                   . show#[(1),rfl]
                   . show#[mt,rfl]
                 show#[85,dl,35,aG.of (y7 _ _ (y6 _ _ (y5 _ _ (y4 _ _ hdl)))),hmt,bE,λp9 hp9=>?_];have y9:=aB.new (o:=.lst [V.int 1,V.int mt]) hp9;show#[5,.inr #[5,p9,35,aG.of aI,hy,609,(y6\y7).trans y9]]
               . refine ai hfo ?_;obtain⟨w9,hw9⟩:∃w9,w9=false:=#[5]
                 obtain⟨y,hy⟩:∃y:Int,bD [V.int 1,V.int mt] (if false=true then 1 else 0)=⇑(.int y):=by show#[(1),rfl]
                 show#[85,dl,35,aG.of (y7 _ _ (y6 _ _ (y5 _ _ (y4 _ _ hdl)))),hmt,bE,λp9 hp9=>?_];have y9:=aB.new (o:=.lst [V.int 1,V.int mt]) hp9;show#[5,.inr #[5,p9,35,aG.of aI,hy,609,(y6\y7).trans y9]]
             . refine ai (λz=>hdp (Ht z)) ?_;obtain⟨y,hy⟩:∃y:Int,bD [V.int 1,V.int mt] (if false=true then 1 else 0)=⇑(.int y):=by show#[(1),rfl]
               show#[85,dl,35,aG.of (y7 _ _ (y6 _ _ (y5 _ _ (y4 _ _ hdl)))),hmt,bE,λp9 hp9=>?_];have y9:=aB.new (o:=.lst [V.int 1,V.int mt]) hp9;show#[5,.inr #[5,p9,35,aG.of aI,hy,609,(y6\y7).trans y9]]
           . refine ai (λz=>hcl (V.str.inj (bT z))) ?_;show#[33,y6\y7]
         . rintro σ G6 ⟨z,v8,v9,v10,rfl,y6⟩;have hl6:=y6 _ _ (y5 _ _ hl4);show#[5,.inl #[6,aG.of hl6],5,l,19,hl6,ay (by rw[Go]; lia),ns++[z],129,((y4\y5).trans y6).upd hl,?_,by rw[Gv,lns]; rfl];rw[aI,Gy];rfl
       . rintro σ G4 ⟨ns,v2,v3,v7,v8,v9,v10,rfl,y4,hl4,lns⟩;rw[Go] at lns;show#[5,l,ns,513,y2\y4,hl4,lns,hln]
     . rintro σ G ⟨dl,ms,v2,v3,v5,v6,v7,v8,v9,v10,rfl,y2,hdl,lms,hdn⟩;show#[5,q dl G ms hdn (s2\y2) hdl lms]
def lM:FnScope ["_law_stack","_law_number","_law_function","_law_at","_law_now"] ["_law_stack","_law_number"] (ac im):=by walk_at "s"
def Bu (T:Txt K mg t):FnOk P w K mg base CX0 3 t.wG t.xW ["_law_stack","_law_number"] (B5 K):=by
 have Qo:=rA (P:=P) (w:=w) (base:=base) T;refine T.yB.F.ok lM (λvs H Q E h=>?_) (λcdv A outer s H vs Q E hr h=>?_)
 . let#[_,_,_,_,rfl,_]:=h;rfl
 . skip
   refine lx ?_;intro XX;refine(let W1_2:TS:=_; have hW1_2:aV XX ((sB ((aU im).getD 1 0xB)).drop 2) W1_2:=(@aO _ _ _ (dz (b8 T.pS Qo (hr*>#[]) ((aM (show aR _ (aw K) from ax) (aC 2) aF 0x0)>=>(c9 cV<$>aC 3<*>aF)>=>aH)) (iB (aM 0x4 (aC 0) (dG dD aF) 0x0) aF gz))); ?_);refine(let W1_1:TS:=_; have hW1_1:aV XX ((sB ((aU im).getD 1 0xB)).drop 1) W1_1:=(aK (cQ (bA hr.units) (aC 4) (aM (show aR _ (aw K) from ax) (aM (show aR _ (aw K) from ax) (aM (show aR _ (aw K) from ax) (aC 2) aF 0x0) (aC 3) 0x0) aF 0x0) (aC 1) 0x1) hW1_2); ?_);let#[sk,ls0,x,n,rfl,st,l1000,qe,qc]:=h;show#[_,(aK (@bK _ _ _ _ (i3 HK JC JD kh (aC 0)) 0x1) (@aO _ _ _ (ah (bX (c9 i') (bY 0x9 0x1 T.b_len cL (aC 0>=>aH)) aF (aY _)) (aK (dz (aM 0x4 (aC 0) (dG dD aF) 0x0) (ux rfl (bV (au (i:=2) lM.nd rfl 0x3) (bV (au (i:=3) lM.nd rfl 0x3) (bV (au (i:=4) lM.nd rfl 0x3) dE))))) hW1_1) aj))),?_];have A:=su (sk:=sk) (ls0:=ls0) (x:=x);show#[5,.inl #[6,aG.of st.e],sk,_,V.ref x.l,7,st.e,0xA,?_];rw[show((ls0++[x]).map λx:Lf=>V.ref x.l).dropLast=ls0.map λx:Lf=>V.ref x.l by rw[Gy]; exact Jx];have st1:=Stk.pop st;have s1:aB (bJ (bO sk (ls0++[x])) H) (upd H sk (.lst (ls0.map λx:Lf=>V.ref x.l))):=dU dm A.1;have tu1:∀b its,aN K H b its->aN K (upd H sk (.lst (ls0.map λx:Lf=>V.ref x.l))) b its:=λb its h=>K13.sqT_lst h st.e;have ra1:∀b ks,K13.RowsAt K H b ks->K13.RowsAt K (upd H sk (.lst (ls0.map λx:Lf=>V.ref x.l))) b ks:=λb ks h=>h.lst st.e;generalize upd H sk (.lst (ls0.map λx:Lf=>V.ref x.l))=H1 at st1 s1 tu1 ra1 ⊢;rcases IR ls0 with rfl|⟨ls1,y,e⟩
   . show#[5,sk,5,.inl (aG.of st1.e),77,ai 0xA ?_];exact qe rfl _ s1 st1
   . rw[IS] at e;subst e;let#[hyk,rgs,z,g,pa,as,rr,fgy,hry,hB,hlt,qc]:=qc ls1 y rfl;show#[5,sk,5,.inl (aG.of st1.e),77,ao (HJ (by rw[Go,Gv,Hr]; lia)) ?_];have fy:=st1.fr y gN;have Ay:=iU (sk:=sk) (ls:=ls1++[y]++[x]) (x:=y) (Hx _ gN);have hily:y.at_<y.F.rs.length:=by rw[fgy.len]; lia
     obtain⟨ry,hrey⟩:∃ry,y.F.rs[y.at_]?=⇑ry:=#[_,HN hily]
     have haty:bD (y.F.rs.map λw=>V.ref w.r) (y.at_:Int)=⇑↥ry.r:=dO (by rw[HV,hrey]; rfl);have hqy:=fgy.row _ _ _ hrey hry;show#[21,sk,35,aG.of st1.e,lT _ _,y.l,5,aG.of fy.1,3219,?_];show#[85,y.F.fa,35,tu1 _ _ fgy.at_.fn,13,y.F.ra,35,tu1 _ _ fgy.at_.rw_,haty,ry.r,35,tu1 _ _ hqy.it,rfl,y.d,5,bo.k (k:=(Sum.inr z:aE)) fy.2 (ay ∅),?_];have st2:=Stk.dic (kvs:=aQ y.kvs (Sum.inr z:aE) (.int n)) st1;have s2:aB (bJ (bO sk (ls1++[y]++[x])) H) (upd H1 y.d (.dK (aQ y.kvs (Sum.inr z:aE) (.int n)))):=dU s1 Ay.2;have tu2:aN K (upd H1 y.d (.dK (aQ y.kvs (Sum.inr z:aE) (.int n)))) y.F.fa _:=gk (tu1 _ _ fgy.at_.fn) fy.2;have ra2:K13.RowsAt K (upd H1 y.d (.dK (aQ y.kvs (Sum.inr z:aE) (.int n)))) y.F.ra _:=(ra1 _ _ fgy.rowsAt).frz fy.2;generalize upd H1 y.d (.dK (aQ y.kvs (Sum.inr z:aE) (.int n)))=H2 at st2 s2 tu2 ra2 ⊢;show#[5,y.F.fa,35,tu2,211,y.F.ra,_,y.at_,rr,rfl,ra2,fgy.wf,by rw[Go]; exact hlt,by rw[Go]; have:=fgy.small; lia,hB,λH3 s3=>?_];have st3:=st2*>s3;have fy3:=st3.fr _ gN;show#[21,sk,35,aG.of st3.e,lT _ _,y.l,_,(1),(1),7,fy3.1,rfl,?_];exact qc _ (dU (s2\s3) Ay.1) (st3.to (n:=rr))
def qH:FnScope ["_law_stack","_law_program","_law_row","_law_now","_law_function"] ["_law_stack","_law_program","_law_row","_law_now"] (ac jQ):=by walk_at "s"
def GG (T:Txt K mg t):FnOk P w K mg base CX0 3 t.wA t.xR ["_law_stack","_law_program","_law_row","_law_now"] (GC K):=by
 have Qp:=qo (P:=P) (w:=w) (base:=base) T;have Gs:=mf (P:=P) (w:=w) (base:=base) T;refine T.xx.F.ok qH (λvs H Q E h=>?_) (λcdv A outer s H vs Q E hr h=>?_)
 . let#[_,_,_,_,_,_,_,_,_,_,_,_,_,_,rfl,_]:=h;rfl
 . skip
   refine lx ?_;intro XX;refine(let W0_0_1:TS:=_; have hW0_0_1:aV XX ((sB ((sB ((aU jQ).getD 0 0xB)).getD 0 0xB)).drop 1) W0_0_1:=(@aO _ _ _ FM); ?_);let#[sk,pl,r,ls,d,kvs,fas,y,g,p,as,vals,F,rgs,rfl,st,hls,hpl,hrg,hd,hl,h10,hv,hvi,hF,hFn,hFl,hFm,hall,q]:=h;show#[_,(aK (cG PassesOwn.never rfl (di (aC 1)) (au (i:=4) qH.nd rfl 0x3) (@aO _ _ _ (ah (bX b7 (aM (show aR _ (aw K) from ax) (aC 4) aF 0x0) (aM (show aR _ (aw K) from ax) (aC 2) aF 0x0) (aY _)) (aK (@bK _ _ _ _ (br HK HP HQ cu (aC 0) ((b8 T.pP Qp (hr*>#[]) (aC 4>=>(j4 (N':=["_law_atom","_law_now"]) (js:=[none,some 3]) (by kernel_rfl) rfl (iu (aM (show aR _ (aw K) from ax) (aC 2) aF 0x0)) gH (λ_ _ _ _=>(au (i:=0) (show(["_law_atom","_law_now"]:List Str).Nodup by decide +kernel) rfl 0x3 (.inr rfl))) (λ_ _ _ _=>gS) (λ_ _ _ _=>(b8 T.dr Gs (hr*>#[]) (aC 0>=>aC 1>=>aH))))>=>aH))>=>aH)) 0x1) hW0_0_1) aj))) aj),?_];have A:sk∈bO sk ls:=HH;have hp:=hrg.ar y g p as rfl;show#[5,pl,rfl,#[_,hpl],(let Jv1:Nat->St->Hp->Prop:=λi σ H'=>∃v4:Kd V,σ=[⇑↥sk,⇑↥pl,⇑↥r,⇑↥d,v4]/\H'=H/\∀j,j<i->fas[j]?≠⇑F.fa; gX (xs:=fas.map V.ref) Jv1 #[11,λj hj=>absurd hj (Iz _)] ?_ ?_ ?_)]
   . rintro i σ H' hi ⟨v4,rfl,rfl,_⟩;exact hpl
   . rintro i x σ H' hx ⟨v4,rfl,rfl,hno⟩;let#[a,hai,ham,rfl]:=cb hx;let#[nm,rest,hat,hnm]:=hall a ham;show#[5,a,35,hat,aP,5,r,35,hrg.it,29,?_];by_cases hg:nm=g
     . refine ao (HJ (HY V.str hg)) ?_;have ha:=hnm.mp hg;subst ha;show#[5,.inl #[6,aG.of st.e],21,r,35,hrg.it,rfl,p,rfl,#[_,hp],λu hu=>u6 (K:=K) (λi _ y=>∃a,as[i]?=⇑a/\av kvs a=⇑y) (λ_ _ _ _ _ z=>z) (xs:=as) ∅ hp hu ?_ ?_]
       . rintro i z H2 R' hz s2 ⟨acc,ha⟩ r2;have hi:i<vals.length:=by rw[<- hl]; exact(Gq.mp hz).1
         have hvi:=hv i z _ hz (HN hi);show#[21,z,_,d,kvs,rfl,s2 _ _ hd,hvi,r2 _ H2 (aB.refl _) #[z,hz,hvi]]
       . intro H3 ys s3 e3 ly ty;have ey:ys=vals:=by
           refine KI λi=>?_;cases e:ys[i]? with
           | none=>rw[Im (by have:=J3.mp e; lia)]
           | some y =>
             let#[a,h1,h2]:=ty i y e;have hi:i<vals.length:=by rw[<- hl]; exact(Gq.mp h1).1
             have:=hv i a _ h1 (HN hi);rw[h2] at this;rw[HN hi,this]
         subst ey;show#[F,rgs,u,ys,rfl,hF*>s3,aG.of e3,hFl,hvi,λl d' H4 kvs' hl4 hd4 hne s4 e4 e5 al=>?_];have s34:=s3\s4;let X':Lf:={ l:=l,d:=d',F:=F,at_:=0,kvs:=kvs' }
         have st4:=st.push (x:=X') s34 (s3.free hl4) (s3.free hd4) e4 e5;show#[sk,19,s34 _ _ st.e,ay (by rw[Go]; lia),?_];rw[show((ls.map λx:Lf=>V.ref x.l)++[V.ref l])=((ls++[X']).map λx:Lf=>V.ref x.l) by rw[Gy (l₁:=ls)]; rfl];exact q _ X' (dU (dm\s34) A) rfl rfl al (s3.free hl4) (s3.free hd4) st4
     . refine ai (λz=>hg (V.str.inj (bT z))) ?_;show#[11,λj hj=>?_];rcases Hk j i with h|h
       . exact hno j h
       . have:j=i:=by lia
         subst this;rw[hai];intro z;exact hg (hnm.mpr (Option.some.inj z))
   . rintro σ H' ⟨v4,rfl,rfl,hno⟩;rw[Go] at hno;let#[j,hj]:=Hy hFm;exact absurd hj (hno j (Gq.mp hj).1)
def F5:FnScope ["_law_row","_law_now","_law_store"] ["_law_row","_law_now","_law_store"] (ac fE):=by walk_at "s"
def Ca (T:Txt K mg t):FnOk P w K mg base CX0 2 t.wE t.xV ["_law_row","_law_now","_law_store"] (Bi K):=by
 have Gs:=mf (P:=P) (w:=w) (base:=base) T;have QU:=Bs (P:=P) (w:=w) (base:=base) T;refine T.yA.F.ok F5 (λvs H Q E h=>?_) (λcdv A outer s H vs Q E hr h=>?_)
 . let#[_,_,_,_,_,_,_,_,_,_,_,_,_,_,rfl,_]:=h;rfl
 . skip
   refine lx ?_;intro XX;refine(let W6:TS:=_; have hW6:aV XX ((aU fE).drop 6) W6:=(~~~du); ?_);refine(let W5:TS:=_; have hW5:aV XX ((aU fE).drop 5) W5:=(aK (ah (bX b7 0x2 aT (aY _)) (aK (@bK _ _ _ _ (br HK HP HQ cu (cC (bA hr.units) (aC 2) aT 0x0) ((b8 T.dr Gs (hr*>#[]) (0x2>=>aC 1>=>aH))>=>aH)) 0x1) (~~~(bQ (aT>=>(b8 T.dr Gs (hr*>#[]) (0x2>=>aC 1>=>aH))>=>aH)))) aj) hW6); ?_);refine(let W4:TS:=_; have hW4:aV XX ((aU fE).drop 4) W4:=(aK (ah (bX b7 0x2 aT (aY _)) (aK (cQ (bA hr.units) (aC 2) aT (c9 cV<$>(cC (bA hr.units) (aC 2) aT 0x0)<*>aF) 0x1) (aK (cQ (bA hr.units) (aC 1) 0x2 (cC (bA hr.units) (aC 2) aT 0x0) 0x1) (~~~(bQ (aT>=>(cC (bA hr.units) (aC 2) aT 0x0)>=>aH))))) aj) hW5); ?_);refine(let W3:TS:=_; have hW3:aV XX ((aU fE).drop 3) W3:=(aK (ah (bX b7 0x2 aT (aY _)) (aK (cQ (bA hr.units) (aC 2) aT (bQ ((b8 T.dr Gs (hr*>#[]) (0x2>=>aC 1>=>aH))>=>0x2>=>aH)) 0x1) (aK (cQ (bA hr.units) (cC (bA hr.units) (aC 2) aT 0x0) (cC (bA hr.units) (aC 2) aT 0x0) (b8 T.dr Gs (hr*>#[]) (0x2>=>aC 1>=>aH)) 0x1) (~~~(bQ (aT>=>(aM (show aR _ (aw K) from ax) (cC (bA hr.units) (aC 2) aT 0x0) aF 0x0)>=>0x2>=>(b8 T.dr Gs (hr*>#[]) (0x2>=>aC 1>=>aH))>=>aH))))) aj) hW4); ?_);refine(let W2:TS:=_; have hW2:aV XX ((aU fE).drop 2) W2:=(aK (ah (bX b7 0x2 aT (aY _)) (aK (cQ (bA hr.units) (aC 1) 0x2 (kr (bA hr.units) (cC (bA hr.units) (aC 2) aT 0x0) (bQ ((b8 T.dr Gs (hr*>#[]) (0x2>=>aC 1>=>aH))>=>0x2>=>aH)) aF #[31]) 0x1) (@aO _ _ _ (cQ (bA hr.units) (aC 2) aT (bQ ((b8 T.dr Gs (hr*>#[]) (0x2>=>aC 1>=>aH))>=>0x2>=>aH)) 0x1))) aj) hW3); ?_);refine(let W1:TS:=_; have hW1:aV XX ((aU fE).drop 1) W1:=(aK (ah (bX b7 0x2 aT (aY _)) (@aO _ _ _ (cQ (bA hr.units) (aC 1) 0x2 (b8 T.yH QU (hr*>#[]) (0x2>=>(b8 T.dr Gs (hr*>#[]) (0x2>=>aC 1>=>aH))>=>(b8 T.dr Gs (hr*>#[]) (0x2>=>aC 1>=>aH))>=>aH)) 0x1)) aj) hW2); ?_);let#[r,d,st,fd,la,sl,rg,kvs,fk,li,lf,made,sents,ans,rfl,hrg,hd,hk,hne,S,hfk,hsn,q]:=h;show#[_,(aK (ah (bX b7 0x2 aT (aY _)) (@aO _ _ _ (cQ (bA hr.units) (aC 1) 0x2 (b8 T.dr Gs (hr*>#[]) (0x2>=>aC 1>=>aH)) 0x1)) aj) hW1),?_];cases rg with
   | ifs a=>show#[5,r,35,hrg.it,aP,13,iN #[5,r,35,hrg.it,aP,13,iN #[5,r,35,hrg.it,aP,13,iN #[5,r,35,hrg.it,aP,13,iN #[5,r,35,hrg.it,aP,13,iN #[5,r,35,hrg.it,aP,13,iN q]]]]]]
   | whl a=>show#[5,r,35,hrg.it,aP,13,iN #[5,r,35,hrg.it,aP,13,iN #[5,r,35,hrg.it,aP,13,iN #[5,r,35,hrg.it,aP,13,iN #[5,r,35,hrg.it,aP,13,iN #[5,r,35,hrg.it,aP,13,iN q]]]]]]
   | back a=>exact q.elim
   | call x g p as=>exact q.elim
   | out a =>
     let#[i,ea,q]:=q;have dsl:d≠sl:=λz=>by have:=S.sl_; rw[<- z,hd] at this; cases this
     show#[5,r,35,hrg.it,aP,13,iN #[5,r,35,hrg.it,aP,13,iN #[5,r,35,hrg.it,aP,13,iN #[5,r,35,hrg.it,aP,13,iN #[5,r,35,hrg.it,aP,13,iN #[5,r,35,hrg.it,aP,13,iP #[5,st,↥sl,rfl,ck S.st_ oE,.inl #[6,aG.of S.sl_],5,r,35,hrg.it,13,a,_,d,5,hd,ea,sl,19,S.sl_,ay ∅,?_]]]]]]];have S2:=S.send (vs:=sents++[.int i]);have r2:=K13.sqT_lst (o:=.lst (sents++[.int i])) hrg.it S.sl_;have y2:aB (bJ [sl] H) (upd H sl (.lst (sents++[.int i]))):=dU dm HH;have d2:(upd H sl (.lst (sents++[.int i]))) d=⇑(.dK kvs):=(aJ dsl)\hd;generalize upd H sl (.lst (sents++[.int i]))=H2 at S2 r2 y2 d2 ⊢;have n3:∀b,H2 b=none->H b=none:=λb hb=>by
       by_cases z1:b=sl
       . rw[z1,S2.sl_] at hb; cases hb
       . have:=y2.free hb;rw[dB (by simp [z1])] at this;exact this
     show#[5,r,35,r2,13,a,_,d,5,d2,ea,bE,λtp htp=>q tp _ (n3 _ htp) (y2\(aB.new htp)) (aB.new htp _ _ d2) (S2.mono (aB.new htp)) aI]
   | new x =>
     show#[5,r,35,hrg.it,aP,13,iN #[5,r,35,hrg.it,aP,13,iN #[5,r,35,hrg.it,aP,13,iN #[5,r,35,hrg.it,aP,13,iN #[5,r,35,hrg.it,aP,13,iP #[5,st,.int made,rfl,ck S.st_ ni,77,st,5,bo.k (k:=(Sum.inr "made":aE)) S.st_ (ay (by show 5<1000000; decide)),?_]]]]]];rw[A3];have S2:=S.mk_ (m:=made+1);have r2:=gk (o:=.dK (bj fd la (made+1) sl ans)) hrg.it S.st_;have y2:aB (bJ [d,st] H) (upd H st (.dK (bj fd la (made+1) sl ans))):=dU dm (Gz _ HH);have d2:(upd H st (.dK (bj fd la (made+1) sl ans))) d=⇑(.dK kvs):=(aJ hne)\hd;generalize upd H st (.dK (bj fd la (made+1) sl ans))=H2 at S2 r2 y2 d2 ⊢;show#[5,st,.int (made+1),rfl,ck S2.st_ ni,21,r,35,r2,rfl,d,5,bo.k (k:=(Sum.inr x:aE)) d2 (ay ∅),?_];have S3:=S2.dic (o:=.dK (aQ kvs (Sum.inr x:aE) (.int (made+1)))) d2 hne;have y3:aB (bJ [d,st] H) (upd H2 d (.dK (aQ kvs (Sum.inr x:aE) (.int (made+1))))):=dU y2 HH;have d3:=aI (H:=H2) (a:=d) (o:=.dK (aQ kvs (Sum.inr x:aE) (.int (made+1))));generalize upd H2 d (.dK (aQ kvs (Sum.inr x:aE) (.int (made+1))))=H3 at S3 y3 d3 ⊢;have n3:∀b,H3 b=none->H b=none:=λb hb=>by
       by_cases z1:b=d
       . rw[z1,d3] at hb; cases hb
       . by_cases z2:b=st
         . rw[z2] at hb; rw[S3.st_] at hb; cases hb
         . have:=y3.free hb;rw[dB (by simp [z1,z2])] at this;exact this
     show#[5,st,.int (made+1),rfl,ck S3.st_ ni,bE,λtp htp=>q tp _ (n3 _ htp) (y3\(aB.new htp)) (aB.new htp _ _ d3) (S3.mono (aB.new htp)) aI]
   | put a f b =>
     let#[i,j,ea,eb,q]:=q;have dfd:d≠fd:=λz=>by have:=S.fd_; rw[<- z,hd] at this; cases this
     show#[5,r,35,hrg.it,aP,13,iN #[5,r,35,hrg.it,aP,13,iN #[5,r,35,hrg.it,aP,13,iN #[5,r,35,hrg.it,aP,13,iP #[5,r,35,hrg.it,13,a,_,d,5,hd,ea,5,r,35,hrg.it,rfl,bE,λp hp=>?_]]]]];have y1:=aB.new (o:=.tup [.int i,.str f]) hp;have f1:=aI (H:=H) (a:=p) (o:=.tup [.int i,.str f]);have S1:=S.mono y1;have r1:=y1<*hrg.it;have d1:=y1 _ _ hd;generalize upd H p (.tup [.int i,.str f])=H1 at y1 f1 S1 r1 d1 ⊢;show#[5,st,5,bo.k (k:=(Sum.inr "last":aE)) S1.st_ (ay (by show 5<1000000; decide)),?_];rw[rH];have S2:=S1.last f1;have r2:=gk (o:=.dK (bj fd p made sl ans)) r1 S1.st_;have y2:aB (bJ [st,fd] H) (upd H1 st (.dK (bj fd p made sl ans))):=dU (dm\y1) HH;have d2:(upd H1 st (.dK (bj fd p made sl ans))) d=⇑(.dK kvs):=(aJ hne)\d1;generalize upd H1 st (.dK (bj fd p made sl ans))=H2 at S2 r2 y2 d2 ⊢;show#[5,r,35,r2,13,b,_,d,5,d2,eb,5,st,↥fd,rfl,ck S2.st_ ma,5,st,↥p,rfl,ck S2.st_ ko,fd,5,bo.t (k:=Wk.fk i f) S2.fd_ S2.la_ (ay ∅),?_];have S3:=S2.put (v:=.int j);have r3:=Fj (o:=.dT (aQ fk (Wk.fk i f) (.int j))) r2 S2.fd_;have y3:aB (bJ [st,fd] H) (upd H2 fd (.dT (aQ fk (Wk.fk i f) (.int j)))):=dU y2 (Gz _ HH);have d3:(upd H2 fd (.dT (aQ fk (Wk.fk i f) (.int j)))) d=⇑(.dK kvs):=(aJ dfd)\d2;have n3:∀b,(upd H2 fd (.dT (aQ fk (Wk.fk i f) (.int j)))) b=none->H b=none:=λb hb=>by
       by_cases z1:b=fd
       . rw[z1,aI] at hb; cases hb
       . by_cases z2:b=st
         . rw[z2] at hb; rw[S3.st_] at hb; cases hb
         . have:=y3.free hb;rw[dB (by simp [z1,z2])] at this;exact this
     generalize upd H2 fd (.dT (aQ fk (Wk.fk i f) (.int j)))=H3 at S3 r3 y3 d3 n3 ⊢;show#[5,st,↥p,rfl,ck S3.st_ ko,p,35,aN.of S3.la_,aP,5,r,35,r3,13,r,35,r3,13,b,_,d,5,d3,eb,gO,λtp htp=>q p tp _ hp (n3 _ htp) (y3\(aB.new htp)) (aB.new htp _ _ d3) (S3.mono (aB.new htp)) aI]
   | copy x a =>
     let#[v,ea,q]:=q;show#[5,r,35,hrg.it,aP,13,iP #[5,r,35,hrg.it,13,a,_,d,5,hd,ea,21,r,35,hrg.it,rfl,d,5,bo.k (k:=(Sum.inr x:aE)) hd (ay ∅),?_]];have h2:=gk (o:=.dK (aQ kvs (Sum.inr x:aE) (.int v))) hrg.it hd;show#[5,r,35,h2,aP,13,iN #[5,r,35,h2,aP,13,iN #[5,r,35,h2,aP,13,iN #[5,r,35,h2,aP,13,iN #[5,r,35,h2,aP,13,iN (q _ (dU dm HH) aI)]]]]]
   | op x s a b =>
     let#[i,j,ea,eb,vi,vj,hs,q]:=q;show#[5,r,35,hrg.it,aP,13,iN #[5,r,35,hrg.it,aP,13,iP #[5,r,35,hrg.it,13,r,35,hrg.it,13,a,_,d,5,hd,ea,5,r,35,hrg.it,13,b,_,d,5,hd,eb,s,i,j,rfl,hs,vi.1,vi.2,vj.1,vj.2,λH1 s1=>#[21,r,35,(s1<*hrg.it),rfl,d,5,bo.k (k:=(Sum.inr x:aE)) (s1 _ _ hd) (ay ∅),?_]]]];have h2:=gk (o:=.dK (aQ kvs (Sum.inr x:aE) (.int (K21.valOf s i j)))) (s1<*hrg.it) (s1 _ _ hd);show#[5,r,35,h2,aP,13,iN #[5,r,35,h2,aP,13,iN #[5,r,35,h2,aP,13,iN #[5,r,35,h2,aP,13,iN (q _ (dU (dm\s1) HH) aI)]]]]
   | get x a f =>
     let#[i,ea,a',ea',q]:=q;show#[5,r,35,hrg.it,aP,13,iN #[5,r,35,hrg.it,aP,13,iN #[5,r,35,hrg.it,aP,13,iP #[5,st,↥fd,rfl,ck S.st_ ma,fd,rfl,.inr #[_,.inl S.fd_],5,r,35,hrg.it,13,a,_,d,5,hd,ea,5,r,35,hrg.it,rfl,bE,λp hp=>?_]]]];have y1:=aB.new (o:=.tup [.int i,.str f]) hp;have f1:=aI (H:=H) (a:=p) (o:=.tup [.int i,.str f]);have S1:=S.mono y1;have r1:=y1<*hrg.it;have d1:=y1 _ _ hd;generalize upd H p (.tup [.int i,.str f])=H1 at y1 f1 S1 r1 d1 ⊢;show#[_,cX.t (k:=Wk.fk i f) S1.fd_ f1,?_];generalize (aZ fk (Wk.fk i f)).getD (.int 0)=w at q ea' ⊢;show#[21,r,35,r1,rfl,d,5,bo.k (k:=(Sum.inr x:aE)) d1 (ay ∅),?_];have S2:=S1.dic (o:=.dK (aQ kvs (Sum.inr x:aE) w)) d1 hne;have r2:=gk (o:=.dK (aQ kvs (Sum.inr x:aE) w)) r1 d1;have y2:aB (bJ [d,st] H) (upd H1 d (.dK (aQ kvs (Sum.inr x:aE) w))):=dU (dm\y1) HH;have d2:=aI (H:=H1) (a:=d) (o:=.dK (aQ kvs (Sum.inr x:aE) w));generalize upd H1 d (.dK (aQ kvs (Sum.inr x:aE) w))=H2 at S2 r2 y2 d2 ⊢;show#[5,r,35,r2,13,a,_,d,5,d2,ea',5,r,35,r2,rfl,bE,λp2 hp2=>?_];generalize e:upd H2 p2 _=H3;have ⟨y3,f3⟩:=nw e hp2;have S3:=S2.mono y3;show#[5,st,5,bo.k (k:=(Sum.inr "last":aE)) S3.st_ (ay (by show 5<1000000; decide)),?_];rw[rH];have n3:∀b,H2 b=none->H b=none:=λb hb=>by
       by_cases z1:b=d
       . rw[z1,d2] at hb; cases hb
       . by_cases z2:b=st
         . rw[z2] at hb; rw[S2.st_] at hb; cases hb
         . have:=y2.free hb;rw[dB (by simp [z1,z2])] at this;exact this
     have S4:=S3.last f3;have r4:=gk (o:=.dK (bj fd p2 made sl ans)) (y3<*r2) S3.st_;show#[5,r,35,r4,aP,13,iN #[5,r,35,r4,aP,13,iN #[5,r,35,r4,aP,13,iN (q p2 _ (n3 _ hp2) (dU (y2\y3) (Gz _ HH)) ((aJ hne)\(y3 _ _ d2)) S4)]]]
def mM:FnScope ["_law_walker","_law_store","_law_record","_law_name","_law_found"] ["_law_walker","_law_store"] (ac lS):=by walk_at "s"
def Bq (T:Txt K mg t):FnOk P w K mg base CX0 2 t.wB t.xS ["_law_walker","_law_store"] (AR K t):=by
 have Qe:=tK (P:=P) (w:=w) (base:=base) T;have Qi:=uF (P:=P) (w:=w) (base:=base) T;refine T.xy.F.ok mM (λvs H Q E h=>?_) (λcdv A outer s H vs Q E hr h=>?_)
 . let#[_,_,_,_,_,_,_,_,_,_,_,_,_,_,_,_,rfl,_]:=h;rfl
 . let#[Hb,w,fs,oc,sent,cn,st,fd,la,sl,li,z,lf,made,sents,ans,rfl,h,S,hz,q]:=h;show#[_,(aK (dz (cC (bA hr.units) (aC 1) aT 0x0) (dR rfl (bV (au (i:=2) mM.nd rfl 0x3) (bV (au (i:=3) mM.nd rfl 0x3) dE)))) (aK (@aa _ _ 4 _ _ _ _ mM.nd rfl 0x3 (bt (aC 0) T.aq.cl T.kJ.m Qi (hr*>#[]) T.kJ.b .nil bN (aC 2>=>aC 3>=>aH)) 0x1 0x5) (~~~(gC (b8 T.mZ Qe (hr*>#[]) (aC 4>=>aH)) (gp (dA b7 (aC 4) (kr (bA hr.units) (cC (bA hr.units) (aC 1) aT 0x0) (cC (bA hr.units) (aC 1) aT 0x0) aF #[31]) (aY _))))))),?_];show#[5,st,↥la,rfl,ck S.st_ ko,la,5,aN.of S.la_,403,?_];show#[5,w.a,9,h.o,53,Hb,w,fs,oc,sent,cn,li,lf,rfl,h,λH1 s1=>?_];have S1:=S.mono s1;rw[hz];show#[5,z,13,gw #[21,st,↥fd,rfl,ck S1.st_ ma,fd,rfl,.inr #[_,.inl S1.fd_],5,st,↥la,rfl,ck S1.st_ ko,_,cX.t (k:=Wk.fk li lf) S1.fd_ S1.la_,?_]];have e:(aZ cn.kv (Wk.fk li lf)).getD (.int 0)=.int z:=hz;rw[e];show#[rfl,vq (HY V.bl (HJ rfl)) (q _ s1)]
def de:FnScope ["_law_cells","_law_base","_law_most","_law_pool_here","_law_called","_law_shapes","_law_bodies","_law_sizes","_law_cell","_law_digits_here","_law_program","_law_head","_law_body_here","_law_size","_law_names","_law_last"] ["_law_cells","_law_base","_law_most"] (ac eD):=by walk_at "s"
def Dp (T:Txt K mg t):FnOk P w K mg base CX0 4 t.vw t.xO ["_law_cells","_law_base","_law_most"] (CF K):=by
 have Qu:=Bo (P:=P) (w:=w) (base:=base) T;have Qm:=uJ (P:=P) (w:=w) (base:=base) T;have QV:=Av (P:=P) (w:=w) (base:=base) T;have QW:=F6 (P:=P) (w:=w) (base:=base) T;refine T.xu.F.ok de (λvs H Q E h=>?_) (λcdv A outer s H vs Q E hr h=>?_)
 . let#[_,_,_,_,rfl,_]:=h;rfl
 . skip
   refine lx ?_;intro XX;refine(let W8:TS:=_; have hW8:aV XX ((aU eD).drop 8) W8:=(aK (ah (bX (c9 i') (bY (FE rfl) 0x1 T.b_max mv ((b8 T.yG QV (hr*>#[]) (aC 10>=>aH))>=>aH)) (aC 2) (aY _)) (@aO _ _ _ (nE (i:=10) de.nd rfl 0x3 (N':=["_law_name","_law_folded","_law_params","_law_rows"]) (js:=[none,none,none,none]) (by kernel_rfl) rfl (di (aC 10)) (E' (ki (ki (ki (ki AO))))) (λ_ _ _ _=>(show PG _ _ (oW K 4 _) from dR (n:=4) rfl (bV (au (i:=0) (show(["_law_name","_law_folded","_law_params","_law_rows"]:List Str).Nodup by decide +kernel) rfl 0x3 (.inr rfl)) (bV (au (i:=1) (show(["_law_name","_law_folded","_law_params","_law_rows"]:List Str).Nodup by decide +kernel) rfl 0x3 (.inr rfl)) (bV (au (i:=2) (show(["_law_name","_law_folded","_law_params","_law_rows"]:List Str).Nodup by decide +kernel) rfl 0x3 (.inr rfl)) (bV (au (i:=3) (show(["_law_name","_law_folded","_law_params","_law_rows"]:List Str).Nodup by decide +kernel) rfl 0x3 (.inr rfl)) dE)))))) (λ_ _ _ _=>gS) (λ_ _ _ _=>(bQ (aC 0>=>eP>=>aC 2>=>aC 3>=>aH))) 0x1)) aj) (~~~(aC 10))); ?_);refine(let W7_2:TS:=_; have hW7_2:aV XX ((sB ((aU eD).getD 7 0xB)).drop 2) W7_2:=(@aO _ _ _ (@bK _ _ _ _ (br HK HP HQ cu (aC 10) ((GH<$>aC 11<*>(bQ ((b8 T.xr QW (hr*>#[]) (aC 12>=>aC 14>=>(gL gt (aC 3) gy (fN aF))>=>aC 5>=>aC 15>=>aH))>=>aH)))>=>aH)) 0x1)); ?_);refine(let W7_1:TS:=_; have hW7_1:aV XX ((sB ((aU eD).getD 7 0xB)).drop 1) W7_1:=(ii (@aa _ _ 15 _ _ _ _ de.nd rfl 0x3 (aM 0x4 (bI ((aM 0x4 (aC 13) aF 0x0)>=>aF>=>aH)) (cc fH 0x1 T.b_int eW ((gC (bY gF 0x1 T.b_isinstance gZ ((aM 0x4 (aC 13) aF 0x0)>=>(gM (v:=V.ty "str") rfl T.b_str ja rfl)>=>aH)) (gp (dA oN (aM 0x4 (aC 13) aF 0x0) (aC 14) (by with_unfolding_all rfl))))>=>aH)) 0x0) 0x1 0x5) hW7_2); ?_);refine(let W6:TS:=_; have hW6:aV XX ((aU eD).drop 6) W6:=(aK (@aa _ _ 10 _ _ _ _ de.nd rfl 0x3 (bI aH) 0x1 0x5) (aK (cG PassesOwn.never rfl (A6 rfl T.b_zip (aC 5>=>aC 6>=>aC 7>=>aH)) (dR rfl (bV (au (i:=11) de.nd rfl 0x3) (bV (au (i:=12) de.nd rfl 0x3) (bV (au (i:=13) de.nd rfl 0x3) dE)))) (aK (@aa _ _ 14 _ _ _ _ de.nd rfl 0x3 (gL gt (aC 3) gy (fN (aM 0x4 (aC 13) aF 0x0))) 0x1 0x5) hW7_1)) hW8)); ?_);refine(let W5_0_3:TS:=_; have hW5_0_3:aV XX ((sB ((sB ((aU eD).getD 5 0xB)).getD 0 0xB)).drop 3) W5_0_3:=(@aO _ _ _ (@bK _ _ _ _ (br HK HP HQ cu (aC 6) (bI aH>=>aH)) 0x1)); ?_);refine(let W5_0_2:TS:=_; have hW5_0_2:aV XX ((sB ((sB ((aU eD).getD 5 0xB)).getD 0 0xB)).drop 2) W5_0_2:=(aK (@bK _ _ _ _ (br HK HP HQ cu (aC 7) ((bI ((bY (uU rfl) 0x1 T.b_max mv (aF>=>(bY (G0 rfl) 0x1 T.b_min Aa (aF>=>(c9 cV<$>(aM 0x4 (aC 9) aF 0x0)<*>(aM 0x4 (aC 9) aF 0x0))>=>aH))>=>aH))>=>(aM 0x4 (iq<$>aC 3<*>(ie<$>(bI ((aM 0x4 (aC 9) aF 0x0)>=>aH))<*>aF)) (bq fS<$>(aM 0x4 (aC 9) aF 0x0)<*>aF) 0x0)>=>aH))>=>aH)) 0x1) hW5_0_3); ?_);refine(let W5_0_1:TS:=_; have hW5_0_1:aV XX ((sB ((sB ((aU eD).getD 5 0xB)).getD 0 0xB)).drop 1) W5_0_1:=(aK (@bK _ _ _ _ (br HK HP HQ cu (aC 5) ((bQ ((aM 0x4 (aC 4) (bY 0x9 0x1 T.b_len cL (aC 5>=>aH)) 0x0)>=>(dA b7 (aM 0x4 (aC 9) aF 0x0) aF (aY _))>=>(cc oI 0x1 T.b_tuple mx ((gL gt (aC 3) gy (fN (aM 0x4 (aC 9) aF 0x0)))>=>aH))>=>aH))>=>aH)) 0x1) hW5_0_2); ?_);refine(let W4:TS:=_; have hW4:aV XX ((aU eD).drop 4) W4:=(aK (@aa _ _ 7 _ _ _ _ de.nd rfl 0x3 (bI aH) 0x1 0x5) (aK (cG PassesOwn.never rfl (di (aC 0)) (au (i:=8) de.nd rfl 0x3) (@aO _ _ _ (ah (@PW.pt _ _ _ (fV (bX (oV hr.units) (aC 5) (bI aH) (aY _)) (gD (@PW.pt _ _ _ (ge (bX b7 (bq cN<$>aC 8<*>aF) aF (aY _)) (gj (bX (c9 g9) (bY 0x9 0x1 T.b_len cL (aC 5>=>aH)) aF (aY _)))))))) (aK (@aa _ _ 9 _ _ _ _ de.nd rfl 0x3 (b8 T.pO Qm (hr*>#[]) ((bq jP<$>aC 8<*>aF)>=>(bI (aF>=>aF>=>aF>=>aF>=>(bq j5<$>aF<*>aF)>=>aH))>=>aH)) 0x1 0x5) hW5_0_1) (@aO _ _ _ (@bK _ _ _ _ (br HK HP HQ cu (aM 0x4 (aC 6) (dG dD aF) 0x0) (aC 8>=>aH)) 0x1))))) hW6)); ?_);refine(let W2:TS:=_; have hW2:aV XX ((aU eD).drop 2) W2:=(aK (@aa _ _ 5 _ _ _ _ de.nd rfl 0x3 (bI aH) 0x1 0x5) (aK (@aa _ _ 6 _ _ _ _ de.nd rfl 0x3 (bI aH) 0x1 0x5) hW4)); ?_);let#[cl,cs,base,most,rfl,ha,h0,h30,q]:=h;show#[_,(aK (@aa _ _ 3 _ _ _ _ de.nd rfl 0x3 (b8 T.pR Qu (hr*>#[]) (aC 1>=>aF>=>aH)) 0x1 0x5) (aK (@aa _ _ 4 _ _ _ _ de.nd rfl 0x3 (b8 T.pR Qu (hr*>#[]) ((c9 cV<$>(bq jP<$>aC 1<*>aF)<*>aF)>=>aF>=>aH)) 0x1 0x5) hW2)),?_];show#[5,base,(24),rfl,#[],λpl H1 ns hpl s1 e1 ln pol=>?_];show#[83,#[#[],#[]],19,base / 7+11,(12),rfl,#[],λal H2 cn hal s2 e2 lc pol2=>?_];have sA:=s1\s2;have e1:=s2 _ _ e1;have ha:=sA.seq ha;have hq:∀l H' (fs:List Pf),H2 l=none->aB H2 H'->H' l=⇑(.lst (fs.map λf=>V.ref f.a))->Prg K H' fs->Q ↥l H':=λl H' fs h1 h2 h3 h4=>q l H' fs (sA.free h1) (sA\h2) h3 h4;clear s1 s2 sA q hpl hal;show#[cM,λsl hsl=>?_];generalize e:upd H2 sl _=H3;have ⟨s3,e3⟩:=nw e hsl;show#[cM,λbl hbl=>?_];have s4:=aB.new (o:=.lst []) hbl;have e4:=aI (H:=H3) (a:=bl) (o:=.lst []);have n1:sl≠bl:=λz=>by rw[z,hbl] at e3; cases e3
   generalize upd H3 bl (.lst [])=H4 at s4 e4 ⊢;show#[cM,λzl hzl=>?_];have s5:=aB.new (o:=.lst []) hzl;have e5:=aI (H:=H4) (a:=zl) (o:=.lst []);have n2:sl≠zl:=λz=>by have:=s4 _ _ e3; rw[z,hzl] at this; cases this
   have n3:bl≠zl:=λz=>by rw[z,hzl] at e4; cases e4
   generalize upd H4 zl (.lst [])=H5 at s5 e5 ⊢;have D0:Dg K H2 H5 sl bl zl [] [] []:=#[(s3\s4).trans s5,s5 _ _ (s4 _ _ e3),s5 _ _ e4,e5,(λ_ h=>absurd h Hh),(λ_ h=>absurd h Hh),(λ_ h=>absurd h Hh),#[n1,n2,n3],(λ_ h=>absurd h Hh),(λ_ h=>absurd h Hh),JS,#[hsl,s3.free hbl,s3.free (s4.free hzl)]]
   clear s3 s4 s5 e3 e4 e5 n1 n2 n3 hsl hbl hzl;show#[5,cl,rfl,#[_,D0.same.seq ha],(let Jv1:Nat->St->Hp->Prop:=λi σ H'=>∃(v8 v9:Kd V) (shs:List Shp) (bs:List (Kg×List Int)) (zs:List (Kg×Nat×V)),σ=[⇑↥cl,⇑(.int base),⇑(.int most),⇑↥pl,⇑↥al,⇑↥sl,⇑↥bl,⇑↥zl,v8,v9,none,none,none,none,none,none]/\Dg K H2 H' sl bl zl shs bs zs/\L1 ns cn i shs bs zs; gX (xs:=cs.map V.int) Jv1 #[4,[],[],[],rfl,D0,EL] ?_ ?_ ?_)]
   . rintro i σ H' hi ⟨v8,v9,shs,bs,zs,rfl,D,_⟩;exact D.same.seq ha
   . rintro i x σ H' hx ⟨v8,v9,shs,bs,zs,rfl,D,L⟩;let#[c,hc,hcm,rfl]:=cb hx;have hil:i<30:=by have:=(Gq.mp hc).1; lia
     clear hx hc hcm D0;show#[5,cM,λe he=>#[sl,e,11,aG.of ((aB.new he) _ _ D.sl_),aG.of aI,5,?_]];have D:=D.mono (aB.new (o:=.lst []) he);generalize upd H' e (.lst [])=H6 at D ⊢;refine or3 (λhor=>?_) (λhb=>?_) (λk=>#[83,#[],13,k]) (λk=>#[5,sl,5,.inl (aG.of D.sl_),77,k])
     . have h12:shs.length<12:=by
         rcases hor with h|⟨_,h⟩
         . have:=Ht h;rw[List.map_eq_nil_iff] at this;rw[this];decide
         . have:=Ht h;rw[Go] at this
           lia
       clear hor;show#[83,#[#[],#[]],19,#[#[],#[],#[]],nF,λp hp=>#[c / 16,p,[2,7,19,24,2 ^ (48:Int).toNat],rfl,aG.of aI,0x7,#[],λdl H9 hdl s9 e9=>?_]];have e9:H9 dl=⇑(.lst [V.int (c / 16%2),V.int (c / 16 / 2%7),V.int (c / 16 / 2 / 7%19),V.int (c / 16 / 2 / 7 / 19%24),V.int (c / 16 / 2 / 7 / 19 / 24%2 ^ (48:Int).toNat)]):=e9;have nds:dl≠sl:=λz=>by have:=(aB.new (o:=.lst [V.int 2,.int 7,.int 19,.int 24,.int (2 ^ (48:Int).toNat)]) hp) _ _ D.sl_; rw[<- z] at this; rw[this] at hdl; cases hdl
       have D:=D.mono ((aB.new hp)\s9);have b4:0<=c / 16 / 2 / 7 / 19 / 24%2 ^ (48:Int).toNat/\c / 16 / 2 / 7 / 19 / 24%2 ^ (48:Int).toNat<281474976710656:=cq _ _ 0x7;have b1:=cq (c / 16 / 2) 7 #[];have b2:=cq (c / 16 / 2 / 7) 19 #[];have b3:=cq (c / 16 / 2 / 7 / 19) 24 #[];generalize c / 16 / 2 / 7 / 19 / 24%2 ^ (48:Int).toNat=d4 at e9 b4;generalize c / 16 / 2 / 7 / 19%24=d3 at e9 b3;generalize c / 16 / 2 / 7%19=d2 at e9 b2;generalize c / 16 / 2%7=d1 at e9 b1;generalize c / 16%2=d0 at e9;have hcn:shs.length<cn.length:=by lia
       have hat1:bD (cn.map V.str) ((shs.map λs=>V.ref s.a).length:Int)=⇑(.str cn[shs.length]):=dO (by rw[Go,HV,HN hcn]; rfl);have ep:=D.same _ _ e1;have ea:=D.same _ _ e2;have ct:cR (ns.map V.str) none ⇑d1=(ns.take d1.toNat).map V.str:=by rw[lP _ b1.1 (by rw[Go]; lia),KF]
       show#[5,.inl #[6,aG.of D.sl_],21,sl,5,.inl (aG.of D.sl_),al,35,aG.of ea,hat1,5,dl,35,aG.of e9,aP,53,dl,35,aG.of e9,13,pl,5,aG.of ep,λp1 hp1=>#[p1,5,.inl #[aG.of aI,λtp htp=>#[jX,λtq htq=>#[sl,19,(aB.new htq) _ _ ((aB.new htp) _ _ ((aB.new hp1) _ _ D.sl_)),ay (by rw[Go]; lia),?_]]]]];rw[ct];rw[ct] at htp htq;have s11:=aB.new (o:=.lst ((ns.take d1.toNat).map V.str)) hp1;generalize upd H9 p1 (.lst ((ns.take d1.toNat).map V.str))=H11 at s11 htp htq ⊢;have s12:=aB.new (o:=.tup ((ns.take d1.toNat).map V.str)) htp;have e12:=aI (H:=H11) (a:=tp) (o:=.tup ((ns.take d1.toNat).map V.str));generalize upd H11 tp (.tup ((ns.take d1.toNat).map V.str))=H12 at s12 e12 htq ⊢;generalize e:upd H12 tq _=H13;have ⟨s13,e13⟩:=nw e htq;have e9:=s13 _ _ (s12 _ _ (s11 _ _ e9));have D:=(D.mono ((s11\s12).trans s13)).pushS (s:=#[tq,cn[shs.length],decide (V.int d0=V.int 1),tp,ns.take d1.toNat]) #[aN.of e13,aN.of (s13 _ _ e12),by rw[Hl]; show min d1.toNat ns.length<=6; lia];have e9:upd H13 sl (.lst ((shs.map λs=>V.ref s.a)++[V.ref tq])) dl=_:=(aJ nds)\e9;generalize upd H13 sl (.lst ((shs.map λs=>V.ref s.a)++[V.ref tq]))=H14 at D e9 ⊢;have ep:=D.same _ _ e1;let#[v,hv,hva]:=E1 ln b4 b3.1 b3.2;have lz:=L.l2;have lb:=L.l1;show#[5,.inl #[6,aG.of D.zl_],5,dl,35,aG.of e9,13,dl,35,aG.of e9,52373,dl,35,aG.of e9,rfl,d6,λp1 hp1=>#[p1,19,aI,#[],#[],(by show 1 * 24<=sizeLine; exact IE (ay #[])),λp2 hp2=>#[pl,p2,19,(aB.new hp2) _ _ ((aB.new hp1) _ _ ep),aI,?_,λp3 hp3=>#[5,dl,35,aG.of ((aB.new hp3) _ _ ((aB.new hp2) _ _ ((aB.new hp1) _ _ e9))),51,.inr #[#[],#[]],p3,35,aG.of aI,hv,bE,λz hz=>#[zl,19,(aB.new hz) _ _ ((aB.new hp3) _ _ ((aB.new hp2) _ _ ((aB.new hp1) _ _ D.zl_))),ay (by rw[Go]; lia),?_]]]]]
       . rw[Go,ln,IQ,IH];exact IE (ay #[])
       have D:=D.mono (((aB.new hp1)\(aB.new hp2)).trans (aB.new (o:=.lst (ns.map V.str++(List.replicate (24:Int).toNat [V.int d4]).flatten)) hp3));generalize upd (upd (upd H14 p1 _) p2 _) p3 _=H15 at D hz ⊢;obtain⟨k,hk,hk1,hk2⟩:∃k:Nat,(if(if d1+d2<24 then d1+d2 else 24) > 1 then(if d1+d2<24 then d1+d2 else 24) else 1)=(k:Int)/\1<=k/\k<=24:=#[(if(if d1+d2<24 then d1+d2 else 24) > 1 then(if d1+d2<24 then d1+d2 else 24) else 1:Int).toNat,by repeat' split <;> lia,by repeat' split <;> lia,by repeat' split <;> lia]
       rw[hk];have D:=D.pushZ (k:=k) (v:=v) hz;generalize upd (upd H15 z (.lst [.int k,v])) zl (.lst ((zs.map λz=>V.ref z.1)++[V.ref z]))=H16 at D ⊢;show#[5,.inl #[6,aG.of D.bl_],cM,λb hb=>#[bl,19,(aB.new hb) _ _ D.bl_,ay (by rw[Go]; lia),?_]];have D:=D.pushB hb;show#[65,D,L.opn h12 (HN hcn) (λx hx=>Ir hx) hk1 hk2 hva]
     . have hne:shs≠[]:=λz=>absurd hb (by rw[z]; decide);have l1:=L.l1;obtain⟨bs0,⟨b,cz⟩,rfl⟩:∃b0 b,bs=b0++[b]:=by
         rcases IR bs with e|⟨b0,b,e⟩
         . rw[e] at l1;exact absurd (IK l1.symm) hne
         . rw[IS] at e;show#[b0,b,e]
       have hbm:=D.bd (b,cz) (HS _ HH);have hcz:=L.cells (b,cz) (HS _ HH);have hbl:=D.bl_;rw[Gy] at hbl;show#[21,bl,35,aG.of hbl,jI _ _,.inl #[6,aG.of hbm],5,b,19,hbm,ay (by rw[Go]; have:cz.length<=i:=hcz; lia),?_];show#[65,D.putB,L.cell]
   . rintro σ H' ⟨v8,v9,shs,bs,zs,rfl,D,L⟩;rw[Go] at L;have hpos:=L.pos h0;show#[cM,λgl hgl=>?_];generalize e:upd H' gl _=H7;have ⟨s6,e6⟩:=nw e hgl;show#[85,sl,bl,zl,rfl,#[_,aG.of (s6 _ _ D.sl_)],#[_,aG.of (s6 _ _ D.bl_)],#[_,aG.of (s6 _ _ D.zl_)],(let Jv2:Nat->St->Hp->Prop:=λi σ G=>∃(v11 v12 v13 v14 v15:Kd V) (fs:List Pf),σ=[⇑↥cl,⇑(.int base),⇑(.int most),⇑↥pl,⇑↥al,⇑↥sl,⇑↥bl,⇑↥zl,v8,v9,⇑↥gl,v11,v12,v13,v14,v15]/\Lp2 K H' G gl shs i fs; yk (m:=shs.length) Jv2 #[32,[],rfl,s6,e6,(λ_ h=>absurd h Hh),rfl,(λ_ h=>absurd h Hh)] ?_ ?_)]
     . rintro i σ G hi ⟨v11,v12,v13,v14,v15,fs,rfl,P⟩;show#[8,aG.of (P.same _ _ D.sl_),aG.of (P.same _ _ D.bl_),aG.of (P.same _ _ D.zl_),by rw[Go],by rw[Go,L.l1],by rw[Go,L.l2],λx y z b hx hy hz hb=>?_];let#[sh,hs,hsm,rfl]:=cb hx;obtain⟨⟨ba,bc⟩,hb',hbm,rfl⟩:=cb hy;obtain⟨⟨za,k,v⟩,hz',hzm,rfl⟩:=cb hz;show#[b,5,aN.of aI,3219,?_];have P:=P.mono (aB.new (o:=.tup [↥sh.a,↥ba,↥za]) hb);generalize upd G b (.tup [↥sh.a,↥ba,↥za])=G1 at P ⊢;have hza:=P.same _ _ (D.sz _ hzm);have hza:G1 za=⇑(.lst [.int k,v]):=hza;have hpl:=P.same _ _ (D.same _ _ e1);let#[k1,k2,hva]:=L.zok _ hzm;have k1:1<=k:=k1;have k2:k<=24:=k2;have hva:cp ns v:=hva;show#[21,za,35,aG.of hza,aP,5,pl,5,aG.of hpl,λnl hnl=>?_];rw[show cR (ns.map V.str) none ⇑(k:Int)=(ns.take k).map V.str by rw[lP _ ∅ (by rw[Go]; lia),KF]; rfl];have P:=P.mono (aB.new (o:=.lst ((ns.take k).map V.str)) hnl);have hnl2:=aI (H:=G1) (a:=nl) (o:=.lst ((ns.take k).map V.str));have hza:=(aB.new (o:=.lst ((ns.take k).map V.str)) hnl) _ _ hza;have hpl:=(aB.new (o:=.lst ((ns.take k).map V.str)) hnl) _ _ hpl;generalize upd G1 nl (.lst ((ns.take k).map V.str))=G2 at P hnl2 hza hpl ⊢;show#[λσ' G'=>∃lst,σ'=[⇑↥cl,⇑(.int base),⇑(.int most),⇑↥pl,⇑↥al,⇑↥sl,⇑↥bl,⇑↥zl,v8,v9,⇑↥gl,⇑↥sh.a,⇑↥ba,⇑↥za,⇑↥nl,⇑lst]/\aB G2 G'/\cp (ns.take k) lst,?_,?_]
       . show#[5,za,35,aG.of hza,rfl,bE,λp2 hp2=>?_];generalize e:upd G2 p2 _=G3;have ⟨s8,e8⟩:=nw e hp2;have hza:=s8 _ _ hza;rcases hva with⟨z,rfl,z0,z1⟩|⟨y,rfl,hy⟩
         . show#[5,za,35,aG.of hza,6,"str",_,false,rfl,.int _,13,.inr #[5,p2,35,aG.of e8,aP,5,s8,.inl #[z,rfl,z0,z1]]]
         . show#[5,za,35,aG.of hza,6,"str",_,true,rfl,.str _,53,za,35,aG.of hza,13,nl,5,.inl (aG.of (s8 _ _ hnl2)),rfl,uj _,.inr #[5,?_]];rw[gi];by_cases hin:y∈ns.take k
           . rw[HJ hin];show#[p2,35,aG.of e8,aP,5,s8,.inr #[y,rfl,hin]]
           . rw[Hg hin];show#[p2,35,aG.of e8,13,s8,.inl #[(7),rfl,#[],#[]]]
       . rintro σ' G' ⟨lst,rfl,s8,hl⟩;have P:=P.mono s8;have hpl:=s8 _ _ hpl;have hnl2:=s8 _ _ hnl2;have lcz:bc.length<=cs.length:=L.cells _ hbm;have hf3:=Ar L.le (Gq.mp hs).1 P.sig;show#[5,.inl #[6,aG.of P.gl_],1365,pl,5,aG.of hpl,λfl hfl=>#[21,?_]];rw[show cR (ns.map V.str) none (some 3)=(ns.take 3).map V.str by rw[lP _ #[] (by rw[Go,ln]; decide),KF]; rfl];have P:=P.mono (aB.new (o:=.lst ((ns.take 3).map V.str)) hfl);have hnl2:=(aB.new (o:=.lst ((ns.take 3).map V.str)) hfl) _ _ hnl2;have hfl2:=aI (H:=G') (a:=fl) (o:=.lst ((ns.take 3).map V.str));generalize upd G' fl (.lst ((ns.take 3).map V.str))=G4 at P hnl2 hfl2 ⊢;show#[ba,nl,fl,sl,bc,ns.take k,ns.take 3,shs,lst,rfl,aG.of (P.same _ _ (D.bd _ hbm)),∅,aG.of hnl2,by rw[Hl]; lia,by rw[Hl]; lia,aG.of hfl2,by rw[Hl]; lia,by rw[Hl]; lia,aG.of (P.same _ _ D.sl_),hpos,Hf L.le #[],λs h=>(D.sh s h)*>P.same,λtr G5 rs rhs htr s9 etr hrows wf l61 okr=>?_];have P:=P.mono s9;show#[d6,λq1 hq1=>?_];generalize e:upd G5 q1 _=G6;have ⟨s10,e10⟩:=nw e hq1;have P:=P.mono s10;have A:=(D.sh sh hsm)*>P.same;show#[sh.a,q1,19,A.it,aN.of e10,by simp,by show 3+1<=sizeLine; decide,(λz=>absurd z 0xA),λ_ tf htf=>#[gl,19,(aB.new htf) _ _ P.gl_,ay (by rw[Go]; lia),?_]];generalize e:upd G6 tf _=G7;have ⟨s11,e11⟩:=nw e htf;have P:=P.mono s11;have A:=A.mono s11;have nm1:=rj pol;have nm2:=rj pol2;have snm:∀s∈shs,K12.Nm s.nm:=λs h=>nm2 _ (Ir (by rw[<- L.nms]; exact HX.mpr #[s,h,rfl]));have fit:=λrh h=>yx (rh:=rh) (λs h=>nm1 s (Ir h)) (λs h=>nm1 s (Ir h)) (λs h=>#[snm s h,(D.sh s h).l6]) hl (okr rh h);show#[129,P.push (f:=#[tf,sh.nm,sh.fo,sh.pa,sh.ps,tr,rs,rhs]) hgl #[aN.of e11,A.pr,aN.of (s11 _ _ (s10 _ _ etr)),(hrows*>s10).mono s11,A.l6,l61] #[wf,(snm sh hsm).2,λx hx=>nm1 x (L.ps sh hsm x hx),λrh h=>(fit rh h).1,λrh h=>(fit rh h).2] (λrh h x g p as e=>by subst e; exact(okr _ h).2.1) hs rfl rfl e11]
     . rintro σ G ⟨v11,v12,v13,v14,v15,fs,rfl,P⟩;have pg:=P.prg L hpos pol2;show#[5,gl,fs,rfl,aG.of P.gl_,K1.mpr pg.ne,Hf pg.le #[],pg.at_,pg.ci,λml G2 ms hml s9 e9 lm=>#[ml,ms,rfl,aG.of e9,(λz=>pg.ne (IK (by rw[<- lm,z]; rfl))),λn hn=>#[333,?_]]];have hg:=s9 _ _ P.gl_;have pg:=pg*>s9;have s0:=(D.same.trans P.same)\s9;by_cases hb:n > most
       . refine ao (HJ hb) #[5,gl,rfl,#[_,aG.of hg],λu hu=>km (K:=K) (λi Hq v=>∃tp f,fs[i]?=⇑f/\v=V.ref tp/\Hq tp=⇑(.tup [.str f.nm,.bl false,↥f.pa,↥f.ra])) (λi v Ha Hc e z=>by let#[tp,x,z1,z2,z3]:=z; show#[tp,x,z1,z2,e _ _ z3]) (xs:=fs.map λf=>V.ref f.a) (by rw[Go]; exact Hf pg.le #[]) (aG.of hg) hu ?_ ?_ (mono:=λ_ _ _ _ h z5_=>by let#[a,xs,z1,z2,z3,_,_,w1,_,_,w2,_,_,w3,_,_,w4,w5,z]:=z5_; show#[a,xs,z1,z2,z3,4,w1,4,w2,4,w3,4,w4,w5,h _ _ z])]
         . intro i v H2 R hv s2 ⟨acc,hacc⟩ hR;let#[f,hf,hfm,rfl]:=cb hv;show#[f.a,5,s2<*(pg.at_ f hfm).it,1647829,gO,λtp htp=>hR _ _ (aB.new htp) #[tp,f,hf,rfl,?_]];rw[cy (λz=>by rw[z,hacc] at htp; cases htp)];exact aI
         . rintro H2 vs s2 e2 lv tv;rw[Go] at lv;let#[gs,rfl,m1,m2]:=refold (H:=H2) (fs:=fs) (vs:=vs) lv.symm λi f v h1 h2=>by let#[tp,f',z1,z2,z3]:=tv i v h2;rw[h1] at z1;cases z1;show#[tp,z2,kC _ _ z3]
           show#[5,hq u H2 gs (s0.free hu) (s0\s2) e2 (pg.refold s2 m1 m2)]
       . exact ai (λz=>hb (Ht z)) #[5,hq gl G2 fs (D.same.free hgl) s0 hg pg]
def og:FnScope ["_law_script","_law_cells"] ["_law_script","_law_cells"] (ac ka):=by walk_at "s"
def Fq (T:Txt K mg t):FnOk P w K mg base CX0 5 t.w6 t.xQ ["_law_script","_law_cells"] (yl K):=by
 have QX:=Dp (P:=P) (w:=w) (base:=base) T;have QY:=yV (P:=P) (w:=w) (base:=base) T;have Qc:=uk (P:=P) (w:=w) (base:=base) T;refine T.xw.F.ok og (λvs H Q E h=>?_) (λcdv A outer s H vs Q E hr h=>?_)
 . let#[_,_,_,_,rfl,_]:=h;rfl
 . let#[a,cl,sc,cs,rfl,ha,hn,hc,h27,q]:=h;show#[_,(aK (@aa _ _ 1 _ _ _ _ og.nd rfl 0x3 (iq<$>(bI ((b8 T.j9 Qc (hr*>#[]) (aC 0>=>aF>=>aH))>=>aH))<*>aC 1) 0x1 0x5) (ii (ah (bX b7 (bq cN<$>(b8 T.j9 Qc (hr*>#[]) (aC 0>=>aF>=>aH))<*>aF) aF (aY _)) (@aO _ _ _ (@aa _ _ 1 _ _ _ _ og.nd rfl 0x3 (b8 T.yC QY (hr*>#[]) (aC 1>=>aH)) 0x1 0x5)) aj) (~~~(b8 T.xu QX (hr*>#[]) (aC 1>=>(b8 T.j9 Qc (hr*>#[]) (aC 0>=>aF>=>aH))>=>aF>=>aH))))),?_];show#[5,a,sc,(3),rfl,ha,hn,#[],λz=>#[d6,λp hp=>#[5,p,cl,19,aI,(aB.new hp) _ _ hc,IE (ay (by rw[Go]; show 1+cs.length<1000000; lia)),λp2 hp2=>?_]]];have s1:=(aB.new (o:=.lst [V.int z]) hp)\(aB.new (o:=.lst ([V.int z]++cs.map V.int)) hp2);have e1:=aI (H:=upd H p (.lst [V.int z])) (a:=p2) (o:=.lst ([V.int z]++cs.map V.int));have e1:upd (upd H p (.lst [V.int z])) p2 (.lst ([V.int z]++cs.map V.int)) p2=⇑(.lst ((z::cs).map V.int)):=e1;generalize upd (upd H p (.lst [V.int z])) p2 (.lst ([V.int z]++cs.map V.int))=H1 at s1 e1 ⊢;show#[λσ' G=>∃(l:Kg) (ds:List Int),σ'=[⇑↥a,⇑↥l]/\aB H1 G/\G l=⇑(.lst (ds.map V.int))/\ds.length=cs.length+1,?_,?_]
   . show#[5,a,sc,(0),rfl,s1.seq ha,hn,#[],λz0=>#[19,#[],13,?_]];by_cases h0:V.int (z0%2)=V.int 0
     . exact ao (HJ h0) #[5,p2,z::cs,rfl,aG.of e1,by show cs.length+1<=100; lia,λl H2 ms hl s2 e2 lm=>#[l,ms,rfl,s2,e2,lm]]
     . exact ai (λy=>h0 (Ht y)) #[p2,z::cs,rfl,aB.refl _,e1,rfl]
   . rintro σ' G ⟨l,ds,rfl,s2,e2,ld⟩;have s12:=s1\s2;show#[21,a,sc,(1),rfl,s12.seq ha,hn,#[],λb=>#[l,ds,b,(1000000),rfl,aG.of e2,∅,∅,λgl H3 fs hgl s3 e3 P=>q gl H3 fs (s12.free hgl) (s12\s3) e3 P]]
def gT:FnScope ["_law_stack","_law_program","_law_store","_law_function","_law_at","_law_now","_law_rows","_law_row","_law_deed"] ["_law_stack","_law_program","_law_store"] (ac gK):=by walk_at "s"
def AF (T:Txt K mg t):FnOk P w K mg base CX0 4 t.wI t.xY ["_law_stack","_law_program","_law_store"] (AE K):=by
 have QZ:=Ca (P:=P) (w:=w) (base:=base) T;have Qo:=rA (P:=P) (w:=w) (base:=base) T;have Gs:=mf (P:=P) (w:=w) (base:=base) T;have Q0:=Bu (P:=P) (w:=w) (base:=base) T;have Q1:=GG (P:=P) (w:=w) (base:=base) T;have Ql:=ph (P:=P) (w:=w) (base:=base) T;refine T.yD.F.ok gT (λvs H Q E h=>?_) (λcdv A outer s H vs Q E hr h=>?_)
 . let#[_,_,_,_,_,_,_,_,_,_,_,_,_,_,_,_,_,_,rfl,_]:=h;rfl
 . skip
   refine lx ?_;intro XX;refine(let W8:TS:=_; have hW8:aV XX ((aU gK).drop 8) W8:=(~~~(aC 8)); ?_);refine(let W6:TS:=_; have hW6:aV XX ((aU gK).drop 6) W6:=(ii (ah (@PW.pt _ _ _ (ge (bX eS (aM (show aR _ (aw K) from ax) (aC 7) aF 0x0) (bQ (aT>=>aT>=>aH)) (by with_unfolding_all rfl)) (gj (bX b7 (b8 T.dr Gs (hr*>#[]) ((aM (show aR _ (aw K) from ax) (aC 7) aF 0x0)>=>aC 5>=>aH)) aF (aY _))))) (@aO _ _ _ (@aa _ _ 4 _ _ _ _ gT.nd rfl 0x3 (b8 T.pN Ql (hr*>#[]) (aC 6>=>aC 4>=>(iq<$>(bI (aT>=>aH))<*>(ie<$>(bI (aT>=>aH))<*>(cc fH 0x1 T.b_int eW ((dA b7 (aM (show aR _ (aw K) from ax) (aC 7) aF 0x0) aT (aY _))>=>aH))))>=>aH)) 0x1 0x5)) aj) (aK (dz (b8 T.pS Qo (hr*>#[]) (aC 6>=>(c9 cV<$>aC 4<*>aF)>=>aH)) (iB (aM 0x4 (aC 0) (dG dD aF) 0x0) aF gz)) hW8)); ?_);refine(let W4:TS:=_; have hW4:aV XX ((aU gK).drop 4) W4:=(aK (ah (bX b7 (aM (show aR _ (aw K) from ax) (aC 7) aF 0x0) aT (aY _)) (aK (@bK _ _ _ _ (b8 T.xx Q1 (hr*>#[]) (aC 0>=>aC 1>=>aC 7>=>aC 5>=>aH)) 0x1) (~~~du)) aj) (ii (@aa _ _ 8 _ _ _ _ gT.nd rfl 0x3 (b8 T.yA QZ (hr*>#[]) (aC 7>=>aC 5>=>aC 2>=>aH)) 0x1 0x5) hW6)); ?_);refine(let W2:TS:=_; have hW2:aV XX ((aU gK).drop 2) W2:=(aK (@aa _ _ 7 _ _ _ _ gT.nd rfl 0x3 (aM (show aR _ (aw K) from ax) (aC 6) (aC 4) 0x0) 0x1 0x5) (aK (ah (bX b7 (aM (show aR _ (aw K) from ax) (aC 7) aF 0x0) aT (aY _)) (aK (cQ (bA hr.units) (aC 2) aT (b8 T.dr Gs (hr*>#[]) ((aM (show aR _ (aw K) from ax) (aC 7) aF 0x0)>=>aC 5>=>aH)) 0x1) (aK (@bK _ _ _ _ (b8 T.yB Q0 (hr*>#[]) (aC 0>=>(cC (bA hr.units) (aC 2) aT 0x0)>=>aH)) 0x1) (~~~du))) aj) hW4)); ?_);let#[H0,sk,pl,st,fd,la,sl,fas,ls0,x,rgs,rg,fk,li,lf,made,sents,ans,rfl,s0,no,S,l1000,T_,ap,lfk,lse,lkv,hpl,fg,hrg,q]:=h;show#[_,(aK (dz (aM 0x4 (aC 0) (dG dD aF) 0x0) (ux rfl (bV (au (i:=3) gT.nd rfl 0x3) (bV (au (i:=4) gT.nd rfl 0x3) (bV (au (i:=5) gT.nd rfl 0x3) dE))))) (aK (@aa _ _ 6 _ _ _ _ gT.nd rfl 0x3 (aM (show aR _ (aw K) from ax) (aC 3) aF 0x0) 0x1 0x5) hW2)),?_];have fgH:=fg*>s0;have fx:=S.fr x gN;have hlt:=(Gq.mp hrg).1;obtain⟨rw_,hr⟩:∃r,x.F.rs[x.at_]?=⇑r:=#[_,HN (by rw[fg.len]; exact hlt)]
   have hq:=fgH.row _ _ _ hr hrg;have hat:bD (x.F.rs.map λw=>V.ref w.r) (x.at_:Int)=⇑↥rw_.r:=dO (by rw[HV,hr]; rfl);have Am:=su (sk:=sk) (ls0:=ls0) (x:=x);have mA:∀{b},b∈bO sk (ls0++[x])->b∈dL st fd sl sk (ls0++[x]):=λh=>Gz _ (Gz _ (Gz _ h));have nds:x.d≠st:=λz=>ap.s1 (by rw[<- z]; exact Am.2.2);show#[21,sk,35,aG.of S.e,lT _ _,x.l,5,aG.of fx.1,3219,?_];show#[5,x.F.fa,35,fgH.at_.fn,53,x.F.ra,35,fgH.at_.rw_,hat,?_];show#[5,rw_.r,35,hq.it,RH.item0 _,13,?_];by_cases hb:rg.kind="back"
   . let#[a,rfl]:=Dc hb;let#[v,hv,qe,qc]:=q;refine ao (HJ rfl) #[5,rw_.r,35,hq.it,13,a,_,x.d,5,fx.2,hv,5,st,5,bo.k (k:=(Sum.inr "answer":aE)) T_.st_ (ay (by show 5<1000000; decide)),?_];rw[EI];have T1:=T_.ans (v:=.int v);have y1:aB (bJ (dL st fd sl sk (ls0++[x])) H) (upd H st (.dK (bj fd la made sl (.int v)))):=dU dm HH;have S1:=S.cong (H:=upd H st (.dK (bj fd la made sl (.int v)))) λb hb=>aJ λz=>ap.s1 (by rw[<- z]; exact hb);have z1:=mo s0 no y1;have lsA:∀{G},aB (bJ (bO sk (ls0++[x])) (upd H st (.dK (bj fd la made sl (.int v))))) G->aB (bJ (dL st fd sl sk (ls0++[x])) H) G:=λs=>fj y1 (m9 s λb hb=>mA hb);generalize upd H st (.dK (bj fd la made sl (.int v)))=H1 at T1 y1 S1 z1 lsA ⊢;show#[21,st,.int v,rfl,ck T1.st_ uY,sk,ls0,x,v,rfl,S1,∅,λhz G s2 st2=>qe hz G (lsA s2) st2 (T1.keep S1 #[ap.s1,ap.s2] s2),λls1 y hz=>?_];let#[hyk,rg2,z,g,pa,as,fgy,hry,qk]:=qc ls1 y hz;obtain⟨⟨r,hw⟩,_⟩:=fgy.ways hry (λ_ z=>by cases z);let#[hB,hl2]:=fgy.beh hry hw;show#[hyk,rg2,z,g,pa,as,r,fgy*>z1,hry,hB,hl2,λG s2 st2=>qk r G hw (lsA s2) st2 (T1.keep S1 #[ap.s1,ap.s2] s2)]
   refine ai (λz=>hb (V.str.inj (bT z))) #[5,rw_.r,35,hq.it,RH.item0 _,13,?_];by_cases hc:rg.kind="call"
   . let#[y,g,p,as,e]:=sT (rh:=.rg rg) hc;cases e;let#[vals,F,rg2,e1,h10,e2,e3,fF,hFn,hps,hfa,hall,q]:=q;exact ao (HJ rfl) #[341,sk,pl,rw_.r,ls0++[x],x.d,x.kvs,fas,y,g,p,as,vals,F,rg2,rfl,S,by rw[Gv]; show ls0.length+1<=1000; lia,s0.seq hpl,hq.rg,fx.2,e1,h10,e2,e3,fF*>s0,hFn,hps,hfa,λa ha=>by let#[nm,rest,w1,w2]:=hall a ha;show#[nm,rest,s0<*w1,w2],λG x' s hF hat' hal hl hd st'=>q G x' (m9 s λb hb=>mA hb) hF hat' hal hl hd st' (T_.keep S ap s)]
   refine ai (λz=>hc (V.str.inj (bT z))) ?_;have nob:∀a,rg≠.back a:=λa z=>hb (by rw[z]; rfl);have inA:∀{b},H b=none->b ∉ dL st fd sl sk (ls0++[x]):=λ{b} h z=>by
     rcases HM.mp z with rfl|z
     . rw[T_.st_] at h; cases h
     rcases HM.mp z with rfl|z
     . rw[T_.fd_] at h; cases h
     rcases HM.mp z with rfl|z
     . rw[T_.sl_] at h; cases h
     let#[o,ho]:=S.all z;rw[ho] at h;cases h
   have nfd:fd ∉ bO sk (ls0++[x]):=λz=>by rcases S.kind z with⟨l,e⟩|⟨l,e⟩ <;> rw[T_.fd_] at e <;> cases e
   have stW:∀{W:List Kg} {G:Hp} {kvs2:List (aE×V)},(∀b∈W,b=x.d\/b=st\/b=fd\/b=sl)->aB (bJ W H) G->G x.d=⇑(.dK kvs2)->aB (bJ (dL st fd sl sk (ls0++[x])) H) G/\Stk G sk (ls0++[{ x with kvs:=kvs2 }]):=λhW s hd=>by
     show#[m9 s λb hb=>?_,S.giv s (λb h1 h2=>?_) hd]
     . rcases hW b hb with rfl|rfl|rfl|rfl
       . exact mA Am.2.2
       . exact HH
       . exact Gz _ HH
       . exact Gz _ (Gz _ HH)
     . rcases hW b h2 with h|rfl|rfl|rfl
       . exact h
       . exact absurd h1 ap.s1
       . exact absurd h1 nfd
       . exact absurd h1 ap.s2
   have keepD:∀{G:Hp},aB (bJ [x.d] H) G->Sto G st fd la sl fk li lf made sents ans:=λs=>T_.keep S ap (m9 s λb hb=>by rw[HG.mp hb]; exact Am.2.2);have o1:∀b∈[x.d],b=x.d\/b=st\/b=fd\/b=sl:=λb hb=>.inl (HG.mp hb);have o2:∀b∈[x.d,st],b=x.d\/b=st\/b=fd\/b=sl:=λb hb=>by simp at hb; rcases hb with h|h <;> simp [h]
   have o3:∀b∈[st,fd],b=x.d\/b=st\/b=fd\/b=sl:=λb hb=>by simp at hb; rcases hb with h|h <;> simp [h]
   have o4:∀b∈[sl],b=x.d\/b=st\/b=fd\/b=sl:=λb hb=>by simp at hb; simp [hb]
   show#[λσ' G=>∃(dv:V) (j:Nat),σ'=[⇑↥sk,⇑↥pl,⇑↥st,⇑↥x.F.fa,⇑(.int x.at_),⇑↥x.d,⇑↥x.F.ra,⇑↥rw_.r,⇑dv]/\Md H (dL st fd sl sk (ls0++[x])) sk st fd sl ls0 x ans Q j dv G/\RoJ rg x G j,?_,?_]
   . show#[85,rw_.r,x.d,st,fd,la,sl,rg,x.kvs,fk,li,lf,made,sents,ans,rfl,hq.rg,fx.2,lkv,nds,T_,lfk,lse,?_];clear hq hat hr fgH hpl;cases rg with
     | copy y a =>
       let#[v,h1,q]:=q;show#[v,h1,λG s hd=>?_];let#[w1,w2]:=stW o1 s hd;show#[_,(0),rfl,#[w1,128,w2,keepD s,λr G' hw s' st' T'=>q r G' hw (fj w1 s') st' T'],.inl #[(by decide +kernel:¬ K13.isO ("copy":Str)=true),rfl]]
     | op y s_ a b =>
       let#[i,j,h1,h2,h3,h4,h5,q]:=q;show#[i,j,h1,h2,h3,h4,h5,λG s hd=>?_];let#[w1,w2]:=stW o1 s hd;show#[_,(0),rfl,#[w1,128,w2,keepD s,λr G' hw s' st' T'=>q r G' hw (fj w1 s') st' T'],.inl #[(by decide +kernel:¬ K13.isO ("op":Str)=true),rfl]]
     | get y a f =>
       let#[i,a',h1,h2,q]:=q;show#[i,h1,a',h2,λla2 G hla s hd T2=>?_];let#[w1,w2]:=stW o2 s hd;show#[_,(0),rfl,#[w1,128,w2,T2,λr G' hw s' st' T'=>q la2 r G' hla hw (fj w1 s') st' T'],.inl #[(by decide +kernel:¬ K13.isO ("get":Str)=true),rfl]]
     | put a f b =>
       let#[i,j,h1,h2,q]:=q;show#[i,j,h1,h2,λla2 tp G hla htp s hd T2 et=>?_];let#[w1,w2]:=stW o3 s hd;show#[_,(0),rfl,#[w1,128,w2,T2,λr G' hw s' st' T'=>q la2 tp r G' hla htp hw (fj w1 s') st' T' (s' _ _ (by rw[dB (inA htp)]; exact et))],.inl #[(by decide +kernel:¬ K13.isO ("put":Str)=true),rfl]]
     | new y =>
       intro tp G htp s hd T2 et;let#[w1,w2]:=stW o2 s hd;show#[_,(0),rfl,#[w1,128,w2,T2,λr G' hw s' st' T'=>q tp r G' htp hw (fj w1 s') st' T' (s' _ _ (by rw[dB (inA htp)]; exact et))],.inl #[(by decide +kernel:¬ K13.isO ("new":Str)=true),rfl]]
     | out a =>
       let#[i,h1,q]:=q;show#[i,h1,λtp G htp s hd T2 et=>?_];let#[w1,w2]:=stW o4 s hd;show#[_,(0),rfl,#[w1,128,w2,T2,λr G' hw s' st' T'=>q tp r G' htp hw (fj w1 s') st' T' (s' _ _ (by rw[dB (inA htp)]; exact et))],.inl #[(by decide +kernel:¬ K13.isO ("out":Str)=true),rfl]]
     | ifs a =>
       let#[i,h1,q]:=q;show#[9,#[dm,x.kvs,64,S,T_,λr G' hw s' st' T'=>q r G' hw s' st' T'],.inr #[a,i,.inl rfl,rfl,h1,fx.2]]
     | whl a =>
       let#[i,h1,q]:=q;show#[9,#[dm,x.kvs,64,S,T_,λr G' hw s' st' T'=>q r G' hw s' st' T'],.inr #[a,i,.inr rfl,rfl,h1,fx.2]]
     | back a=>exact absurd rfl (nob a)
     | call y g p as=>exact absurd rfl hc
   . rintro σ' G ⟨dv,j,rfl,M,Rj⟩;have s0G:=mo s0 no M.1;have hq:=(fg*>s0G).row _ _ _ hr hrg;have rws:=(fg*>s0G).rowsAt;have hl100:=fg.small;show#[λσ2 G2=>∃(k r:Nat),σ2=[⇑↥sk,⇑↥pl,⇑↥st,⇑↥x.F.fa,⇑(.int k),⇑↥x.d,⇑↥x.F.ra,⇑↥rw_.r,⇑dv]/\Md H (dL st fd sl sk (ls0++[x])) sk st fd sl ls0 x ans Q j dv G2/\cD x.F x.at_ j r/\K13.Beh (rgs.map RH.kind) k r/\k+1<rgs.length,?_,?_]
     . show#[5,rw_.r,35,hq.it,RH.item0 _,bE,λtp htp=>#[tp,[V.str "if",V.str "while"],rfl,.inr (aN.of aI),29,?_]];have y1:=aB.new (o:=.tup [V.str "if",V.str "while"]) htp;have M1:=M.mono y1;rcases Rj with⟨no_,rfl⟩|⟨a,i,hk,rfl,hav,hdx⟩
       . have e:cS (.str (RH.rg rg).kind) [V.str "if",V.str "while"]=false:=by rw[show([V.str "if",V.str "while"]:List V)=([("if":Str),"while"]).map V.str from rfl,gi];exact Hg λz=>no_ (by have z2:rg.kind="if"\/rg.kind="while":=(show(RH.rg rg).kind="if"\/(RH.rg rg).kind="while" by simpa using z); unfold K13.isO; simpa using z2)
         obtain⟨⟨r,hw⟩,_⟩:=fg.ways hrg nob;let#[hB,hl2]:=fg.beh hrg hw;exact ai (by rw[e]; decide) #[x.at_,r,rfl,M1,hw,hB,hl2]
       . have e:cS (.str (RH.rg rg).kind) [V.str "if",V.str "while"]=true:=by
           rcases hk with rfl|rfl
           . exact(by decide +kernel:cS (.str "if") [V.str "if",V.str "while"]=true)
           . exact(by decide +kernel:cS (.str "while") [V.str "if",V.str "while"]=true)
         have hkd:K13.kd (rgs.map RH.kind) x.at_=rg.kind:=ji hrg;have hO:K13.isO (K13.kd (rgs.map RH.kind) x.at_)=true:=by
           rw[hkd];rcases hk with rfl|rfl
           . exact(by decide +kernel:K13.isO ("if":Str)=true)
           . exact(by decide +kernel:K13.isO ("while":Str)=true)
         have hq:=hq*>y1;have hdx:=y1 _ _ hdx;have rws:=rws*>y1;generalize upd G tp (.tup [V.str "if",V.str "while"])=G1 at M1 hq hdx rws ⊢;have hit1:bD (RH.items (.rg rg)) 1=⇑a:=by rcases hk with rfl|rfl <;> rfl
         refine ao e #[5,rw_.r,35,hq.it,hit1,5,a,.int i,x.d,x.kvs,rfl,hdx,hav,13,?_];by_cases hi:i=0
         . subst hi;let#[r,hw]:=(fg.ways hrg nob).2 (by rcases hk with h|h; exact .inl #[a,h]; exact .inr #[a,h]);let#[f,hF,hB,hl2,hlf]:=fg.beh1 hw;obtain⟨n,ws,en,n1,ew,hws⟩:∃(n:Nat) (ws:List Str),(if decide (V.str (RH.rg rg).kind=V.str "if")=true then(1:Int) else 0)=(n:Int)/\n<=1/\[V.str "end"]++(List.replicate n [V.str "else"]).flatten=ws.map V.str/\((ws=(["end"]:List Str)/\K13.Ends (rgs.map RH.kind) x.at_ f)\/(ws=(["end","else"]:List Str)/\K13.First (rgs.map RH.kind) x.at_ f)):=by
             rcases hk with rfl|rfl
             . show#[(1),["end","else"],HI (HJ rfl),Gw _,rfl,.inr #[rfl,hF]]
             . let#[e',hE]:=K13.ends_ex fg.wf (b:=x.at_) (by rw[Go]; exact hlt) hO;have:=K13.first_uniq hF (K13.while_first fg.wf hE hkd);subst this;show#[(0),["end"],Gu (by decide +kernel:¬ decide (V.str "while"=V.str "if")=true),#[],rfl,.inl #[rfl,hE]]
           refine ao (HJ rfl) #[21,d6,λp1 hp1=>#[d6,λp2 hp2=>?_]];have y2:=(aB.new (o:=.lst [V.str "end"]) hp1)\(aB.new (o:=.lst [V.str "else"]) hp2);have c1:=(aB.new (o:=.lst [V.str "else"]) hp2) _ _ (aI (H:=G1) (a:=p1) (o:=.lst [V.str "end"]));have c2:=aI (H:=upd G1 p1 (.lst [V.str "end"])) (a:=p2) (o:=.lst [V.str "else"]);have M1:=M1.mono y2;have hq:=hq*>y2;have rws:=rws*>y2;generalize upd (upd G1 p1 (.lst [V.str "end"])) p2 (.lst [V.str "else"])=G3 at M1 hq rws c1 c2 ⊢;show#[5,rw_.r,35,hq.it,RH.item0 _,rfl,.inr #[5,?_]];rw[en];show#[p2,19,c2,∅,∅,by rw[Hm]; show 1 * n<=sizeLine; exact IE (ay ∅),λp3 hp3=>?_];rw[Hm];have y3:=aB.new (o:=.lst (List.replicate n [V.str "else"]).flatten) hp3;have c3:=aI (H:=G3) (a:=p3) (o:=.lst (List.replicate n [V.str "else"]).flatten);show#[p1,p3,19,y3 _ _ c1,c3,by rw[IQ,IH]; show 1+n<=sizeLine; exact IE (ay ∅),λp4 hp4=>?_];rw[ew];have y4:=y3\(aB.new (o:=.lst (ws.map V.str)) hp4);show#[x.F.ra,p4,_,ws,x.at_,x.at_,f,rfl,rws*>y4,fg.wf,aG.of aI,by rw[Go]; exact hlt,by rw[Go]; lia,Gw _,K13.at_start hO,hlf,hws,λG5 s5=>#[f,r,rfl,M1.mono (y4\s5),hw,hB,hl2]]
         . obtain⟨⟨r,hw⟩,_⟩:=fg.ways hrg nob;let#[hB,hl2]:=fg.beh hrg hw;exact ai (λz=>hi (V.int.inj (bT z))) #[x.at_,r,rfl,M1,by rw[HI hi]; exact hw,hB,hl2]
     . rintro σ2 G2 ⟨k,r,rfl,M,hw,hB,hl2⟩;let#[m1,k2,la2,fk2,li2,lf2,m2,se2,S2,T2,fin]:=M;have s0G:=mo s0 no m1;show#[339,x.F.ra,_,k,r,rfl,(fg*>s0G).rowsAt,fg.wf,by rw[Go]; exact hl2,by rw[Go]; lia,hB,λG3 s3=>?_];have S3:=S2.mono s3;have fx3:=S3.fr _ gN;show#[21,sk,35,aG.of S3.e,lT _ _,x.l,_,(1),(1),7,fx3.1,rfl,?_];have S4:=S3.to (n:=r);have inl:x.l∈bO sk (ls0++[{ x with kvs:=k2 }]):=by rw[jG (x:=x) (x':={ x with kvs:=k2 }) rfl rfl]; exact Am.2.1
       have T4:=(T2.mono s3).keep S3 (by rw[jG (x:=x) (x':={ x with kvs:=k2 }) rfl rfl]; exact ap) (dU (o:=.lst [V.ref x.F.fa,V.int r,V.ref x.d]) dm inl);show#[5,fin r _ hw (dU (dm\s3) (mA Am.2.1)) S4 T4]
def iC:FnScope ["_law_walker","_law_stack","_law_pick","_law_due","_law_found","_law_level","_law_at","_law_name","_law_told"] ["_law_walker","_law_stack","_law_pick"] (ac gQ):=by walk_at "s"
def Cu (T:Txt K mg t):FnOk P w K mg base CX0 6 t.wM t.xc ["_law_walker","_law_stack","_law_pick"] (Bn K t):=by
 have Qe:=tK (P:=P) (w:=w) (base:=base) T;have Qq:=rC (P:=P) (w:=w) (base:=base) T;have Q2:=Ee (P:=P) (w:=w) (base:=base) T;have Qb:=mw (P:=P) (w:=w) (base:=base) T;have Qr:=rK (P:=P) (w:=w) (base:=base) T;refine T.yF.F.ok iC (λvs H Q E h=>?_) (λcdv A outer s H vs Q E hr h=>?_)
 . let#[_,_,_,_,_,_,_,_,_,_,_,_,_,_,_,_,_,_,rfl,_]:=h;rfl
 . skip
   refine lx ?_;intro XX;refine(let W6:TS:=_; have hW6:aV XX ((aU gQ).drop 6) W6:=(~~~(gC (dA tP (dn (aC 0) T.aq.cl T.fZ.m Qb (hr*>#[]) T.fZ.b .nil bN) eP (aY _)) (gp (CB (uo (dn (aC 0) T.aq.cl T.kI.m Qr (hr*>#[]) T.kI.b .nil bN)))))); ?_);refine(let W5_0_1:TS:=_; have hW5_0_1:aV XX ((sB ((sB ((aU gQ).getD 5 0xB)).getD 0 0xB)).drop 1) W5_0_1:=(@aO _ _ _ (ah (@PW.pt _ _ _ (fV (jx (hU (b8 T.mZ Qe (hr*>#[]) (aC 8>=>aH)))) (gD (bX mE (aC 8) (cC (bA hr.units) (aM 0x4 (aM 0x4 (aC 1) (aC 6) 0x0) aF 0x0) (aC 7) 0x0) (aY _))))) (~~~eP) aj)); ?_);refine(let W4:TS:=_; have hW4:aV XX ((aU gQ).drop 4) W4:=(aK (@aa _ _ 5 _ _ _ _ iC.nd rfl 0x3 (bq cN<$>aC 2<*>(bY 0x9 0x1 T.b_len cL (aC 1>=>aH))) 0x1 0x5) (aK (cG PassesOwn.never rfl (di (iq<$>(ie<$>(bI (aC 5>=>aH))<*>(cc fH 0x1 T.b_int eW ((dA (c9 g9) (aC 5) (c9 dS<$>(bY 0x9 0x1 T.b_len cL (aC 1>=>aH))<*>aF) (aY _))>=>aH)))<*>(bI ((c9 dS<$>(bY 0x9 0x1 T.b_len cL (aC 1>=>aH))<*>aF)>=>aH)))) (au (i:=6) iC.nd rfl 0x3) (@aO _ _ _ (DK (cG PassesOwn.never rfl (E6 (aM 0x4 (aM 0x4 (aC 1) (aC 6) 0x0) aF 0x0)) (au (i:=7) iC.nd rfl 0x3) (aK (@aa _ _ 8 _ _ _ _ iC.nd rfl 0x3 (bt (aC 0) T.aq.cl T.pI.m Q2 (hr*>#[]) T.pI.b .nil bN (aC 6>=>aC 7>=>aH)) 0x1 0x5) hW5_0_1))))) hW6)); ?_);refine(let W2:TS:=_; have hW2:aV XX ((aU gQ).drop 2) W2:=(aK (ah (@PW.pt _ _ _ (fV (jx (hU (bY gF 0x1 T.b_isinstance gZ (aC 4>=>(gM (v:=V.ty "list") rfl T.b_list fT rfl)>=>aH)))) (fV (bX (mF hr.units) (aC 4) (aC 3) (aY _)) (gD (jx (hU (b8 T.mZ Qe (hr*>#[]) ((aM (show aR _ (aw K) from ax) (aM 0x4 (aC 4) (dG dD aF) 0x0) aF 0x0)>=>aH)))))))) (~~~eP) aj) (aK (@bK _ _ _ _ (i3 HK JV JW oJ (aC 4)) 0x1) hW4)); ?_);let#[H0,Hb,w,fs,sent,cn,ps,sk,ls,st,fd,la,sl,li,lf,ans,n,z,rfl,S,hne,hn,q]:=h;show#[_,(aK (nE (i:=3) iC.nd rfl 0x3 (N':=["_law_frame_here"]) (js:=[none]) (by kernel_rfl) rfl (di (aC 1)) gH (λ_ _ _ _=>(au (i:=0) (show(["_law_frame_here"]:List Str).Nodup by decide +kernel) rfl 0x3 (.inr rfl))) (λ_ _ _ _=>gS) (λ_ _ _ _=>(bQ ((aM (show aR _ (aw K) from ax) (aM 0x4 (aC 0) aF 0x0) aF 0x0)>=>(aM 0x4 (aC 0) aF 0x0)>=>aH))) 0x1) (aK (@aa _ _ 4 _ _ _ _ iC.nd rfl 0x3 (dn (aC 0) T.aq.cl T.kK.m Qq (hr*>#[]) T.kK.b .nil bN) 0x1 0x5) hW2)),?_];have h:=S.wa;have few:=S.few.f;have len:=S.len;have pos:0<ls.length:=K1.mpr hne;have at_i:∀i,i<ls.length->∃f x,fs[i]?=⇑f/\ls[i]?=⇑x/\x∈ls:=λi hi=>#[4,HN ∅,HN hi,J5 hi]
   have fhx:∀(i:Nat) (f:Fm) (x:Lf),fs[i]?=⇑f->ls[i]?=⇑x->∃rgs,Fh K H0 x.F rgs:=λi f x hf hx=>by let#[_,_,_,p,hp,hF,_]:=S.tw i f x hf hx;show#[p.rhs,by rw[hF]; exact S.pg.fh hp]
   have skH:=h.b _ _ S.st_.e;show#[5,sk,rfl,#[_,aG.of skH],λu hu=>km (K:=K) (λi Hq v=>∃tp x,ls[i]?=⇑x/\v=V.ref tp/\Hq tp=⇑(.tup [.str x.F.name,.int x.at_])) (λi v Ha Hc e z=>by let#[tp,x,z1,z2,z3]:=z; show#[tp,x,z1,z2,e _ _ z3]) (xs:=ls.map λx:Lf=>V.ref x.l) (by rw[Go]; lia) (aG.of skH) hu ?_ ?_]
   . intro i v H2 R hv s2 ⟨acc,hacc⟩ hR;let#[x,hx,hxm,rfl]:=cb hv;have hi:=(Gq.mp hx).1;let#[rgs,fg]:=fhx i _ x (HN ∅) hx;have hT:=s2<*(h.b<*(S.s0.tup fg.at_.fn));have hL:=s2 _ _ (h.b _ _ (S.st_.fr x hxm).1);show#[5,x.l,35,aG.of hL,aP,x.F.fa,35,hT,aP,5,x.l,35,aG.of hL,rfl,bE,λtp htp=>hR _ _ (aB.new htp) #[tp,x,hx,rfl,?_]];rw[cy (λz=>by rw[z,hacc] at htp; cases htp)];exact aI
   rintro H1 vs s1 e1 lv tv;rw[Go] at lv;have h1:=h.grow s1;show#[5,w.a,9,h1.o,6,w,fs,.non,sent,cn,rfl,h1,∅,λl H2 tps hl s2 e2 hlen hat=>?_];have s12:=s1\s2;have tw:Bg.Twin K H2 2 ↥l ↥u:=Bg.Twin.lst (aG.of e2) (aG.of (s2 _ _ e1)) (Bg.TwinA.at (by rw[Go]; lia) (λi v1 v2 h1 h2=>by
     let#[tp1,g1,_,rfl]:=cb h1;have hi:i<ls.length:=by have:=(Gq.mp g1).1; lia
     let#[f,x,hf,hx,_]:=at_i i hi;let#[_,_,a3]:=hat i f tp1 hf g1;let#[tp2,x2,z1,rfl,z3]:=tv i v2 h2;rw[hx] at z1;cases z1;let#[n1,n2,_]:=S.tw i f x hf hx;let#[rgs,fg]:=fhx i f x hf hx;have z4:H2 tp2=⇑(.tup [.str f.fn,.int f.row]):=by rw[n1,n2]; exact s2 _ _ (kC _ _ z3)
     exact Bg.Twin.tup (aN.of a3) (aN.of z4) (Bg.TwinA.of (.cons (.str (by rw[n1]; exact fg.sn)) (.cons .int .nil)))))
   let#[dd,ld,d1,d2]:=tw;let#[ft,xt,hft,hxt,_]:=at_i (ls.length - 1) ∅;obtain⟨tps0,tpt,rfl⟩:∃tps0 tpt,tps=tps0++[tpt]:=by
     rcases IR tps with e|⟨l0,x,e⟩
     . rw[e] at hlen; simp at hlen; lia
     . rw[IS] at e; show#[l0,x,e]
   have hl1:tps0.length=ls.length - 1:=by rw[Gv,Hr] at hlen; lia
   let#[_,_,a3]:=hat _ ft _ hft (by rw[<- hl1]; exact em _ _);have atl:bD ((tps0++[tpt]).map V.ref) (-1)=⇑↥tpt:=by rw[Gy]; exact jI _ _
   show#[10,"list",_,true,rfl,.lst e2,13,jN #[21,?_]];refine kz #[] ld d1 d2 #[5,ai Hd ?_];show#[21,l,35,aG.of e2,atl,tpt,35,aN.of a3,53,jN ?_];show#[5,.inl #[6,aG.of e2],l,11,e2,?_];have s3:aB H (upd H2 l (.lst [])):=s12.upd (s1.free hl);clear d1 d2 ld h1 hat tv a3 atl e2 hft hxt s12;generalize upd H2 l (.lst [])=H3 at s3 ⊢;have lm:((ls.map λx:Lf=>V.ref x.l).length:Int)=(ls.length:Nat):=by rw[Go]
   have hlp:(0:Int)<((ls.map λx:Lf=>V.ref x.l).length:Nat):=by rw[Go]; lia
   have bl:=cq z ((ls.map λx:Lf=>V.ref x.l).length:Nat) hlp;show#[21,sk,5,.inl (aG.of (s3 _ _ skH)),19,hlp,?_];rw[lm] at bl hlp ⊢;generalize z%(ls.length:Nat)=d at bl;show#[5,d6,λp1 hp1=>?_];have s4:=s3\(aB.new (o:=.lst [V.int d]) hp1);have e4:=aI (H:=H3) (a:=p1) (o:=.lst [V.int d]);generalize upd H3 p1 (.lst [V.int d])=H4 at s4 e4 ⊢;show#[21,sk,5,.inl (aG.of (s4 _ _ skH)),307,.inr #[5,?_]];rw[lm];obtain⟨k,ek,hk⟩:∃k:Nat,(if decide (d<(ls.length:Nat) - 1)=true then(1:Int) else 0)=(k:Int)/\k<=1:=by
     split
     . show#[(1),rfl,Gw _]
     . show#[(0),rfl,#[]]
   rw[ek];show#[p1,19,e4,∅,∅,by rw[Hm]; show 1 * k<=sizeLine; exact IE (ay ∅),λp2 hp2=>?_];rw[Hm,IQ];have s5:=s4\(aB.new (o:=.lst (List.replicate k (V.int d))) hp2);have e5:=aI (H:=H4) (a:=p2) (o:=.lst (List.replicate k (V.int d)));generalize upd H4 p2 (.lst (List.replicate k (V.int d)))=H5 at s5 e5 ⊢;show#[5,sk,5,.inl (aG.of (s5 _ _ skH)),19,d6,λp3 hp3=>?_];rw[lm];have s6:=s5\(aB.new (o:=.lst [V.int ((ls.length:Nat) - 1)]) hp3);have e6:=(aB.new (o:=.lst [V.int ((ls.length:Nat) - 1)]) hp3) _ _ e5;have f6:=aI (H:=H5) (a:=p3) (o:=.lst [V.int ((ls.length:Nat) - 1)]);generalize upd H5 p3 (.lst [V.int ((ls.length:Nat) - 1)])=H6 at s6 e6 f6 ⊢;show#[p2,p3,19,e6,f6,by rw[IH]; exact IE (ay (by show k+1<1000000; lia)),λp4 hp4=>?_];obtain⟨js,ejs,hjs⟩:∃js:List Nat,List.replicate k (V.int d)++[V.int ((ls.length:Nat) - 1)]=js.map (λj=>V.int (j:Nat))/\∀j∈js,j<ls.length:=by
     show#[List.replicate k d.toNat++[ls.length - 1],?_,λj hj=>?_]
     . rw[Gy,JQ,List.map_singleton,Int.toNat_of_nonneg bl.1,show((ls.length - 1:Nat):Int)=(ls.length:Nat) - 1 by lia]
     . rcases HW.mp hj with h|h
       . rw[(J9.mp h).2]; have:=bl.2; lia
       . rw[HG.mp h]; lia
   rw[ejs];have s7:=s6\(aB.new (o:=.lst (js.map λj=>V.int (j:Nat))) hp4);have e7:=aI (H:=H6) (a:=p4) (o:=.lst (js.map λj=>V.int (j:Nat)));generalize upd H6 p4 (.lst (js.map λj=>V.int (j:Nat)))=H7 at s7 e7 ⊢;show#[p4,rfl,#[_,aG.of e7],(let Jv1:Nat->St->Hp->Prop:=λi σ H'=>∃v6 v7 v8:Kd V,σ=[⇑↥w.a,⇑↥sk,⇑(.int z),⇑↥u,⇑↥l,⇑(.int d),v6,v7,v8]/\aB H H'/\aB H7 H'; gX (xs:=js.map λj=>V.int (j:Nat)) Jv1 #[17,s7,aB.refl _] ?_ ?_ ?_)]
   . rintro i σ H' hi ⟨v6,v7,v8,rfl,s8,s9⟩;exact aG.of (s9 _ _ e7)
   . rintro i v σ H' hv ⟨v6,v7,v8,rfl,s8,s9⟩;let#[j,hj,hjm,rfl]:=cb hv;let#[f,x,hf,hx,hxm]:=at_i j (hjs j hjm);let#[n1,n2,al,p,hp,hF,_]:=S.tw j f x hf hx;have xd:=(S.st_.fr x hxm).2;have xl:=(S.st_.fr x hxm).1;have hFm:x.F∈ps.map cf:=by rw[hF]; exact HX.mpr #[p,hp,rfl]
     have h3:=h.grow s8;have g3:=cH (H2:=H') h.b;generalize gr Hb H H'=B3 at h3 g3;have db3:=g3 _ _ xd;have hd3:=h3.b _ _ db3;have hsk:=h3.b _ _ (g3 _ _ S.st_.e);have hxl:=h3.b _ _ (g3 _ _ xl);have hat2:bD (ls.map λx:Lf=>V.ref x.l) (j:Int)=⇑↥x.l:=dO (by rw[HV,hx]; rfl);show#[x.d,x.kvs,hd3,21,sk,35,aG.of hsk,hat2,x.l,35,aG.of hxl,rfl,x.d,x.kvs,rfl,hd3,λo=>?_];have hfz:=h3.put (o':=.frz o (.dK x.kvs)) db3;have no:H0 x.d=none:=S.no x.d (Gz _ (Gz _ (Gz _ (iU hxm).2)));have hFl:F2.FlowsAt K t.bR (upd B3 x.d (.frz o (.dK x.kvs))) w.fl (ps.map cf):=S.fl.mono ((S.s0.trans g3).upd no);have nsk:sk≠x.d:=λz=>by rw[z,hd3] at hsk; cases hsk
     have nxl:x.l≠x.d:=λz=>by rw[z,hd3] at hxl; cases hxl
     have np4:p4≠x.d:=λz=>by have:=s9 _ _ e7; rw[z,hd3] at this; cases this
     have hsk4:upd H' x.d (.frz o (.dK x.kvs)) sk=_:=(aJ nsk)\hsk;have hxl4:upd H' x.d (.frz o (.dK x.kvs)) x.l=_:=(aJ nxl)\hxl;have hp4':upd H' x.d (.frz o (.dK x.kvs)) p4=_:=(aJ np4)\(s9 _ _ e7);have fz4:=aI (H:=H') (a:=x.d) (o:=.frz o (.dK x.kvs));have old:∀b u,H' b=⇑u->b≠x.d->upd H' x.d (.frz o (.dK x.kvs)) b=⇑u:=λb u hb hn=>by rw[aJ hn]; exact hb
     generalize upd H' x.d (.frz o (.dK x.kvs))=H8 at hfz hsk4 hxl4 hp4' fz4 old ⊢;generalize upd B3 x.d (.frz o (.dK x.kvs))=B4 at hfz hFl;refine(let Jv2:Nat->St->Hp->Prop:=λm σ G=>∃v7 v8:Kd V,σ=[⇑↥w.a,⇑↥sk,⇑(.int z),⇑↥u,⇑↥l,⇑(.int d),⇑(.int (j:Nat)),v7,v8]/\aB H8 G; Bt Jv2 #[9,aB.refl _] ?_ ?_ ?_)
     . rintro m σ G hm ⟨v7,v8,rfl,s5⟩;exact s5 _ _ fz4
     . rintro m kv σ G hkv ⟨v7,v8,rfl,s5⟩;let#[y,hn1,hn2]:=al.k kv (He hkv);let#[c,_,hv1,hv2]:=al.v y hn2;have h5:=hfz.grow s5;rw[hn1];show#[5,w.a,9,h5.o,106,w,fs,.non,sent,cn,j,f,y,.int c,ps.map cf,x.F,rfl,h5,hf,hFl*>(cH hfz.b),hFm,n1.symm,hn2,hv1,λH9 s9'=>?_];have s56:=s5\s9';show#[5,c,13,jN #[85,sk,35,aG.of (s56 _ _ hsk4),hat2,x.l,35,aG.of (s56 _ _ hxl4),13,x.d,5,E8 (s56 _ _ fz4) hv2,13,ai (by rw[HJ rfl]; decide) #[9,s56]]]
     . rintro σ G ⟨v7,v8,rfl,s5⟩;have same9:∀{A:Hp},(∀b u,A b=⇑u->H' b=⇑u)->aB A (upd G x.d (.dK x.kvs)):=λ{A} hA b u hb=>by
         by_cases z:b=x.d
         . subst z;have:=hA _ _ hb;rw[hd3] at this;rw[aI];exact this
         . rw[aJ z];exact s5 _ _ (old b u (hA _ _ hb) z)
       show#[o,s5 _ _ fz4,17,same9 s8,same9 s9]
   . rintro σ H' ⟨v6,v7,v8,rfl,s8,_⟩;have h8:=h.grow s8;have fne:fs≠[]:=λz=>by rw[z] at len; simp at len; lia
     show#[5,w.a,9,h8.o,6,w,fs,.non,sent,cn,rfl,h8,77,?_];exact ao (by simp [fne]) #[5,w.a,9,h8.o,6,w,fs,.non,sent,cn,rfl,h8,q _ s8]
def fM:FnScope ["_law_script","_law_program","_law_args","_law_handed","_law_walker","_law_stack","_law_store","_law_pick","_law_due"] ["_law_script"] (ac fP):=by walk_at "s"
def ok_law (T:Txt K mg t):FnOk P w K mg base CX0 9 t.wU t.mY ["_law_script"] (sp_law K):=by
 have Q3:=Fq (P:=P) (w:=w) (base:=base) T;have Q4:=F9 (P:=P) (w:=w) (base:=base) T;have Qv:=CJ (P:=P) (w:=w) (base:=base) T;have Q5:=Bp (P:=P) (w:=w) (base:=base) T;have Qp:=qo (P:=P) (w:=w) (base:=base) T;have Qc:=uk (P:=P) (w:=w) (base:=base) T;have Q6:=AF (P:=P) (w:=w) (base:=base) T;have Q7:=Cu (P:=P) (w:=w) (base:=base) T;have Q8:=Bq (P:=P) (w:=w) (base:=base) T;have Qb:=mw (P:=P) (w:=w) (base:=base) T;have Qs:=BS (P:=P) (w:=w) (base:=base) T;have Q9:=GF (P:=P) (w:=w) (base:=base) T;have Qr:=rK (P:=P) (w:=w) (base:=base) T;have Qq:=rC (P:=P) (w:=w) (base:=base) T;refine T.law.F.ok fM (λvs H Q E h=>?_) (λcdv A outer s H vs Q E hr h=>?_)
 . let#[_,_,rfl,_]:=h;rfl
 . skip
   refine lx ?_;intro XX;refine(let W9_3:TS:=_; have hW9_3:aV XX ((sB ((aU fP).getD 9 0xB)).drop 3) W9_3:=(@aK _ _ _ _ _ (@bK _ _ _ _ (i3 HK JV JW oJ (dn (aC 4) T.aq.cl T.iF.m Qs (hr*>#[]) T.iF.b .nil bN)) 0x1) (@aO _ _ _ (@ah _ _ _ _ _ _ _ _ (@bX _ _ _ _ _ _ _ _ (oV hr.units) (aC 5) (@bI _ _ _ _ aH) (aY _)) (@aK _ _ _ _ _ (@ah _ _ _ _ _ _ _ _ (@PW.pt _ _ _ (fV (@bX _ _ _ _ _ _ _ _ GA (dn (aC 4) T.aq.cl T.fZ.m Qb (hr*>#[]) T.fZ.b .nil bN) eP (aY _)) (gD (@bX _ _ _ _ _ _ _ _ mE (dn (aC 4) T.aq.cl T.kI.m Qr (hr*>#[]) T.kI.b .nil bN) (cC (bA hr.units) (aC 6) aT 0x0) (aY _))))) (~~~eP) aj) (~~~(gC (dA (mU hr.units) (dn (aC 4) T.aq.cl T.kK.m Qq (hr*>#[]) T.kK.b .nil bN) (@bI _ _ _ _ aH) (aY _)) (gp (dA (mU hr.units) (dn (aC 4) T.aq.cl T.iF.m Qs (hr*>#[]) T.iF.b .nil bN) (cC (bA hr.units) (aC 6) aT 0x0) (aY _)))))) aj))); ?_);refine(let W9_1:TS:=_; have hW9_1:aV XX ((sB ((aU fP).getD 9 0xB)).drop 1) W9_1:=(@aK _ _ _ _ _ (@aa _ _ 8 _ _ _ _ fM.nd rfl 0x3 (b8 T.yD Q6 (hr*>#[]) (@af _ _ _ _ _ (aC 5) (@af _ _ _ _ _ (aC 1) (@af _ _ _ _ _ (aC 6) aH 0x1) 0x1) 0x1)) 0x1 0x5) (@aK _ _ _ _ _ (@ah _ _ _ _ _ _ _ _ (@PW.pt _ _ _ (fV (@bX _ _ _ _ _ _ _ _ (mF hr.units) (dn (aC 4) T.aq.cl T.pH.m Q9 (hr*>#[]) T.pH.b .nil bN) (aC 8) (aY _)) (gD (jx (hU (b8 T.xy Q8 (hr*>#[]) (@af _ _ _ _ _ (aC 4) (@af _ _ _ _ _ (aC 6) aH 0x1) 0x1))))))) (~~~eP) aj) hW9_3)); ?_);refine(let W7:TS:=_; have hW7:aV XX ((aU fP).drop 7) W7:=(@aK _ _ _ _ _ (@aa _ _ 5 _ _ _ _ fM.nd rfl 0x3 (@bI _ _ _ _ (@af _ _ _ _ _ (b8 T.pP Qp (hr*>#[]) (@af _ _ _ _ _ (@aM _ _ _ _ _ _ _ 0x4 (aC 1) (dG dD aF) 0x0) (@af _ _ _ _ _ (aC 2) aH 0x1) 0x1)) aH 0x1)) 0x1 0x5) (@aK _ _ _ _ _ (@aa _ _ 6 _ _ _ _ fM.nd rfl 0x3 (@qG _ _ _ _ _ (@eh _ _ _ _ _ _ _ _ _ aT sP (@eh _ _ _ _ _ _ _ _ _ aT (@bQ _ _ _ _ _ (@af _ _ _ _ _ aF (@af _ _ _ _ _ aT aH 0x1) 0x1)) (@eh _ _ _ _ _ _ _ _ _ aT aF (@eh _ _ _ _ _ _ _ _ _ aT (@bI _ _ _ _ aH) (@eh _ _ _ _ _ _ _ _ _ aT aF rp))))) 0x1 0x1 0xA #[]) 0x1 0x5) (@aK _ _ _ _ _ (cG PassesOwn.never rfl (di (b8 T.pT Qv (hr*>#[]) (@af _ _ _ _ _ (b8 T.j9 Qc (hr*>#[]) (@af _ _ _ _ _ (aC 0) (@af _ _ _ _ _ aF aH 0x1) 0x1)) (@af _ _ _ _ _ aF aH 0x1) 0x1))) (au (i:=7) fM.nd rfl 0x3) (@aK _ _ _ _ _ (@ah _ _ _ _ _ _ _ _ (jx (hU (b8 T.yF Q7 (hr*>#[]) (@af _ _ _ _ _ (aC 4) (@af _ _ _ _ _ (aC 5) (@af _ _ _ _ _ (aC 7) aH 0x1) 0x1) 0x1)))) (~~~eP) aj) hW9_1)) (~~~(gC (dA tP (dn (aC 4) T.aq.cl T.fZ.m Qb (hr*>#[]) T.fZ.b .nil bN) eP (aY _)) (gp (dA (mU hr.units) (dn (aC 4) T.aq.cl T.iF.m Qs (hr*>#[]) T.iF.b .nil bN) (cC (bA hr.units) (aC 6) aT 0x0) (aY _)))))))); ?_);refine(let W4:TS:=_; have hW4:aV XX ((aU fP).drop 4) W4:=(@aK _ _ _ _ _ (@ah _ _ _ _ _ _ _ _ (@bX _ _ _ _ _ _ _ _ (mF hr.units) (aC 3) (@bI _ _ _ _ (@af _ _ _ _ _ (aC 1) (@af _ _ _ _ _ (aC 2) aH 0x1) 0x1)) (aY _)) (~~~eP) aj) (@aK _ _ _ _ _ (@bK _ _ _ _ (i3 HK JV JW oJ (@aM _ _ _ _ _ _ _ 0x4 (aC 3) aF 0x0)) 0x1) (@aK _ _ _ _ _ (@bK _ _ _ _ (br HK HP HQ cu (@aM _ _ _ _ _ _ _ 0x4 (aC 3) aF 0x0) (@af _ _ _ _ _ aF aH 0x1)) 0x1) hW7))); ?_);let#[a,sc,rfl,ha,hn,q]:=h;show#[_,(@aK _ _ _ _ _ (@aa _ _ 1 _ _ _ _ fM.nd rfl 0x3 (b8 T.xw Q3 (hr*>#[]) (@af _ _ _ _ _ (aC 0) (@af _ _ _ _ _ (@gL _ _ _ _ _ _ _ _ _ _ gt (aC 0) (fN aF) (fN aF)) aH 0x1) 0x1)) 0x1 0x5) (@aK _ _ _ _ _ (nE (i:=2) fM.nd rfl 0x3 (N':=["_law_number"]) (js:=[none]) (by kernel_rfl) rfl (di (b8 T.pT Qv (hr*>#[]) (@af _ _ _ _ _ (b8 T.j9 Qc (hr*>#[]) (@af _ _ _ _ _ (aC 0) (@af _ _ _ _ _ aF aH 0x1) 0x1)) (@af _ _ _ _ _ (bY 0x9 0x1 T.b_len cL (@af _ _ _ _ _ (@aM _ _ _ _ _ _ _ (show aR _ (aw K) from ax) (@aM _ _ _ _ _ _ _ 0x4 (aC 1) (dG dD aF) 0x0) aF 0x0) aH 0x1)) aH 0x1) 0x1))) gH (λ_ _ _ _=>(au (i:=0) (show(["_law_number"]:List Str).Nodup by decide +kernel) rfl 0x3 (.inr rfl))) (λ_ _ _ _=>gS) (λ_ _ _ _=>(b8 T.yI Q5 (hr*>#[]) (@af _ _ _ _ _ (aC 0) aH 0x1))) 0x1) (@aK _ _ _ _ _ (@aa _ _ 3 _ _ _ _ fM.nd rfl 0x3 (@bI _ _ _ _ (@af _ _ _ _ _ (cc gf 0x1 T.b_list fT (@af _ _ _ _ _ (aC 1) aH 0x1)) (@af _ _ _ _ _ (cc gf 0x1 T.b_list fT (@af _ _ _ _ _ (aC 2) aH 0x1)) aH 0x1) 0x1)) 0x1 0x5) (@aK _ _ _ _ _ (@aa _ _ 4 _ _ _ _ fM.nd rfl 0x3 (nK T.aq T.vA Q4 (hr*>#[]) (@af _ _ _ _ _ (@aM _ _ _ _ _ _ _ 0x4 (aC 3) aF 0x0) (@af _ _ _ _ _ (@aM _ _ _ _ _ _ _ 0x4 (aC 3) aF 0x0) aH 0x1) 0x1)) 0x1 0x5) hW4)))),?_];show#[341,a,5,ha,λcl hcl=>?_];obtain⟨cs,ecs,lcs⟩:∃cs:List Int,cR (sc.map V.int) (some 4) (some 31)=cs.map V.int/\cs.length<=27:=E9 sc;rw[ecs];generalize e:upd H cl _=H1;have ⟨s1,e1⟩:=nw e hcl;show#[a,cl,sc,cs,rfl,s1.seq ha,hn,e1,lcs,λgl H2 ps hgl s2 e2 P=>?_];have s02:=s1\s2;obtain⟨p0,pz,hps⟩:∃p0 pz,ps=p0++[pz]:=by
     rcases IR ps with e|⟨l0,x,e⟩
     . exact absurd e P.ne
     . rw[IS] at e; show#[l0,x,e]
   have hpz:pz∈ps:=by rw[hps]; exact gN
   have hlast:bD (ps.map λf=>V.ref f.a) (-1)=⇑↥pz.a:=by rw[hps,Gy]; exact jI _ _
   have az:=P.at_ pz hpz;have l6:=az.l6;show#[5,a,sc,(3),rfl,s02.seq ha,hn,#[],λc3=>#[21,gl,35,aG.of e2,hlast,pz.a,35,az.it,rfl,pz.pa,5,.inr az.pr,c3,pz.ps.length,by rw[Go]; rfl,∅,λl6' H6 xs6 hl6 s6 e6 len6 nn6=>#[l6',rfl,#[_,aG.of e6],λal hal=>km (K:=K) (λi G v=>∃z,v=V.int z/\c6 z) (λ_ _ _ _ _ h=>h) (xs:=xs6.map V.int) (by rw[Go,len6]; lia) (aG.of e6) hal ?_ ?_]]]
   . intro i x G R hx sG _ hR;let#[z,_,_,rfl]:=cb hx;show#[5,z,rfl,λv hv=>hR (.int v) G (aB.refl _) #[v,rfl,hv]]
   rintro H7 vals s7 e7 lv7 hv7;rw[Go,len6] at lv7;have vi:∀v∈vals,∃i,v=.int i/\c6 i:=λv hv=>by let#[i,hi]:=Hy hv;exact hv7 i v hi
   have s27:=s6\s7;have P7:=P.mono s27;have g7:=s27 _ _ e2;have ha7:=(s02\s27).seq ha;clear s6 s7 e6 hv7 nn6 len6 e2 P s27 s02 s1 s2 e1 hgl hcl hal hl6 az;show#[5,gl,5,.inl (aG.of g7),λl1 hl1=>#[5,al,5,.inl (aG.of (aB.new hl1 _ _ e7)),λl2 hl2=>#[bE,λlh hlh=>?_]]];have g1:=aB.new (o:=.lst (ps.map λf=>V.ref f.a)) hl1;have g2:=aB.new (o:=.lst vals) hl2;have g3:=aB.new (o:=.lst [V.ref l1,V.ref l2]) hlh;have g13:=(g1\g2).trans g3;have n12:l1≠l2:=λz=>by rw[<- z,aI] at hl2; cases hl2
   have Hl2:H7 l2=none:=g1.free hl2;have nlh1:lh≠l1:=λz=>by have:=g2 _ _ (aI (H:=H7) (a:=l1) (o:=.lst (ps.map λf=>V.ref f.a)));rw[z,this] at hlh;cases hlh
   have nlh2:lh≠l2:=λz=>by rw[z,aI] at hlh; cases hlh
   have el1:=g3 _ _ (g2 _ _ (aI (H:=H7) (a:=l1) (o:=.lst (ps.map λf=>V.ref f.a))));have el2:=g3 _ _ (aI (H:=upd H7 l1 (.lst (ps.map λf=>V.ref f.a))) (a:=l2) (o:=.lst vals));have elh:=aI (H:=upd (upd H7 l1 (.lst (ps.map λf=>V.ref f.a))) l2 (.lst vals)) (a:=lh) (o:=.lst [V.ref l1,V.ref l2]);generalize upd (upd (upd H7 l1 (.lst (ps.map λf=>V.ref f.a))) l2 (.lst vals)) lh (.lst [V.ref l1,V.ref l2])=G3 at g3 g13 el1 el2 elh ⊢;show#[5,lh,35,aG.of elh,aP,5,lh,35,aG.of elh,rfl,λx dx hx hdx ndx=>?_];have sX:=AW (o1:=HO.own x) (o2:=HO.ins t.bn dx []) hx hdx;have fz:=P7.fh hpz;show#[x,dx,l1,l2,ps.map cf,cf pz,vals,rfl,aI,by rw[IG]; exact aG.of (sX _ _ el1),by simpa using P7.ne,by rw[Go]; exact P7.le,λf hf=>?_,by rw[IG]; exact P7.nd,by rw[Go,HV,hps,Gv,Hr,Nat.add_sub_cancel,em]; rfl,aG.of (sX _ _ el2),∅,Hf fz.nl #[],Hf l6 #[],λB0 w f Hw hw sb wa fl hOf fn row kv=>#[rfl,?_]]
   . let#[p,hp,rfl]:=HX.mp hf;exact(P7.fh hp).at_.mono (g13\sX)
   subst hw;have sB:=sX\sb;have sGB:=g13\sB;have el1:=sB _ _ el1;have el2:=sB _ _ el2;have elh:=sB _ _ elh;have hoff:=hOf l2 vals (.lst (vals++[.int 3])) (sX _ _ (g3 _ _ (aI (H:=upd H7 l1 (.lst (ps.map λf=>V.ref f.a))) (a:=l2) (o:=.lst vals))));have gP:=P7.mono sGB;have PB:∀{B:Hp},aB H7 B->Prg K B ps:=λs=>P7.mono s;clear sX sb hx hdx g1 g2 g3 hOf ndx sB;show#[85,bE,λlc hlc=>?_];have h8:=wa.grow (aB.new (o:=.lst [V.ref gl,V.ref al]) hlc);have g8:=cH (H2:=upd Hw lc (.lst [V.ref gl,V.ref al])) wa.b;have elc:=aI (H:=Hw) (a:=lc) (o:=.lst [V.ref gl,V.ref al]);have n2:lc≠l2:=λz=>by rw[z,wa.b _ _ el2] at hlc; cases hlc
   generalize upd Hw lc (.lst [V.ref gl,V.ref al])=H8 at h8 g8 elc ⊢;generalize gr B0 Hw H8=B8 at h8 g8;have el1:=g8 _ _ el1;have el2:=g8 _ _ el2;have elh:=g8 _ _ elh;have s78:=sGB\g8;have hoff:F2.FlowsAt K t.bR (upd B8 l2 (.lst (vals++[.int 3]))) w.fl (ps.map cf):=hoff.mono λb u hb=>by
     by_cases z:b=l2
     . rw[z,aI] at hb ⊢; exact hb
     . rw[aJ z] at hb ⊢; exact g8 _ _ hb
   have tw:Bg.Twin K H8 6 ↥lh ↥lc:=Bg.Twin.lst (n:=5) (aG.of (h8.b _ _ elh)) (aG.of elc) (.cons (Bg.Twin.lst (n:=4) (aG.of (h8.b _ _ el1)) (aG.of (h8.b _ _ (s78 _ _ g7))) (Bg.TwinA.of (Bg.HasA.of λv hv=>by
       let#[f,hf,rfl]:=HX.mp hv;exact(Ao (P7.at_ f hf) (P7.ok f hf)).mono (s78\h8.b)))) (.cons ((Bg.Twin.lst (n:=4) (aG.of (h8.b _ _ el2)) (aG.of (h8.b _ _ (s78 _ _ e7))) (Bg.TwinA.of (Bg.HasA.of λv hv=>by
       let#[z,rfl,_]:=vi v hv;exact .int)))) .nil))
   let#[dd,ld,d1,d2]:=tw;refine kz #[] ld d1 d2 #[5,ai Hd ?_];show#[5,lh,35,aG.of (h8.b _ _ elh),aP,.inl #[6,aG.of (h8.b _ _ el1)],l1,11,h8.b _ _ el1,?_];clear d1 d2 ld;have h9:=h8.put (o':=.lst []) el1;have nh1:lh≠l1:=nlh1;have elh9:upd H8 l1 (.lst []) lh=_:=(aJ nh1)\(h8.b _ _ elh);have el29:upd B8 l1 (.lst []) l2=_:=(aJ n12.symm)\el2;show#[5,lh,35,aG.of elh9,rfl,.inl #[6,aG.of (h9.b _ _ el29)],l2,19,h9.b _ _ el29,ay ∅,?_];have hA:=h9.put (o':=.lst (vals++[.int 3])) el29;have flA:F2.FlowsAt K t.bR (upd (upd B8 l1 (.lst [])) l2 (.lst (vals++[.int 3]))) w.fl (ps.map cf):=by rw[C2 n12];refine B9 hoff ((aJ n12)\el1) ↑P7.ne λv hv=>?_;let#[f,hf,rfl]:=HX.mp hv;show#[λs z=>(by cases z),(λz=>by cases z),λq ns z h=>?_];cases z;have e:=s78 _ _ (P7.hp f hf);rw[aJ (λz=>by rw[z,el2] at e; cases e),e] at h;exact Fp h
   have sA:aB H7 (upd (upd B8 l1 (.lst [])) l2 (.lst (vals++[.int 3]))):=(s78.upd hl1).upd Hl2;clear h9 elh9 el29 nh1 hoff el1 el2 elh elc h8 g8 s78 wa fl sGB g13 gP;generalize upd (upd B8 l1 (.lst [])) l2 (.lst (vals++[.int 3]))=BA at hA flA sA;generalize upd (upd H8 l1 (.lst [])) l2 (.lst (vals++[.int 3]))=HA at hA ⊢;have PA:=P7.mono sA;have gA:=sA _ _ g7;have aA:=sA _ _ e7;have haA:=sA.seq ha7;have fzA:=PA.fh hpz;show#[21,gl,35,aG.of (hA.b _ _ gA),hlast,5,cf pz,pz.rhs,al,vals,rfl,fzA*>hA.b,aG.of (hA.b _ _ aA),lv7.symm,vi,λl d HB kvs hl hd hld sB eBl eBd alk=>#[d6,λsk hsk=>?_]];have sC:=sB\(aB.new (o:=.lst [V.ref l]) hsk);have eCl:=(aB.new (o:=.lst [V.ref l]) hsk) _ _ eBl;have eCd:=(aB.new (o:=.lst [V.ref l]) hsk) _ _ eBd;have eCs:=aI (H:=HB) (a:=sk) (o:=.lst [V.ref l]);have nls:l≠sk:=λz=>by rw[z,hsk] at eBl; cases eBl
   have hskA:HA sk=none:=sB.free hsk;generalize upd HB sk (.lst [V.ref l])=HC at sC eCl eCd eCs ⊢;refine λst hst fd hfd=>#[bE,λla hla=>#[cM,λsl hsl=>#[(aB.new hsl) _ _ ((aB.new hla) _ _ ((aB.new hfd) _ _ aI)),bj fd la 0 sl (.int 0),rfl,(by show 5<=15; decide),?_]]]
   show fe 6 ↥st _ (upd _ st (.dK (bj fd la 0 sl (.int 0)))) _;have hstA:=sC.free hst;have x1:=aB.new (o:=.dK []) hst;have x2:=aB.new (o:=.dT []) hfd;have x3:=aB.new (o:=.tup [.int 1,.str "q"]) hla;have x4:=aB.new (o:=.lst []) hsl;have hfdA:=sC.free (x1.free hfd);have hlaA:=sC.free (x1.free (x2.free hla));have hslA:=sC.free (x1.free (x2.free (x3.free hsl)));have nst:∀{b:Kg} {o:HO},HC b=⇑o->b≠st:=λh z=>by rw[z,hst] at h; cases h
   have nsl:∀{b:Kg} {o:HO},HC b=⇑o->b≠sl:=λh z=>by have:=x3 _ _ (x2 _ _ (x1 _ _ h)); rw[z,hsl] at this; cases this
   have nfs:fd≠st:=λz=>by rw[z,aI] at hfd; cases hfd
   have nas:la≠st:=λz=>by have:=x2 _ _ (aI (H:=HC) (a:=st) (o:=.dK [])); rw[z,this] at hla; cases hla
   have nss:sl≠st:=λz=>by have:=x3 _ _ (x2 _ _ (aI (H:=HC) (a:=st) (o:=.dK []))); rw[z,this] at hsl; cases hsl
   have efd:=x4 _ _ (x3 _ _ (aI (H:=upd HC st (.dK [])) (a:=fd) (o:=.dT [])));have ela:=x4 _ _ (aI (H:=upd (upd HC st (.dK [])) fd (.dT [])) (a:=la) (o:=.tup [.int 1,.str "q"]));have esl:=aI (H:=upd (upd (upd HC st (.dK [])) fd (.dT [])) la (.tup [.int 1,.str "q"])) (a:=sl) (o:=.lst []);have sD:=((x1\x2).trans x3).trans x4;generalize upd (upd (upd (upd HC st (.dK [])) fd (.dT [])) la (.tup [.int 1,.str "q"])) sl (.lst [])=HD at sD efd ela esl ⊢;have sE:=sD.upd (o:=.dK (bj fd la 0 sl (.int 0))) hst;have efd:=(aJ (H:=HD) (o:=.dK (bj fd la 0 sl (.int 0))) nfs)\efd;have ela:=(aJ (H:=HD) (o:=.dK (bj fd la 0 sl (.int 0))) nas)\ela;have esl:=(aJ (H:=HD) (o:=.dK (bj fd la 0 sl (.int 0))) nss)\esl;have est:=aI (H:=HD) (a:=st) (o:=.dK (bj fd la 0 sl (.int 0)));generalize upd HD st (.dK (bj fd la 0 sl (.int 0)))=HE at sE efd ela esl est ⊢;have sAE:=sC\sE;clear x1 x2 x3 x4 nfs nas nss hst hfd hla hsl sD;show#[5,a,sc,(1),rfl,sAE.seq (hA.b.seq haA),hn,#[],λc1=>#[c1,(32),rfl,#[],λzl HF zs hzl sF eF lz _=>?_]];have sAF:=sAE\sF;have hzlA:HA zl=none:=sAE.free hzl;have zC:∀{b:Kg} {o:HO},HC b=⇑o->b≠zl:=λh z=>by have:=sE _ _ h; rw[z,hzl] at this; cases this
   have zE:∀{b:Kg} {o:HO},HE b=⇑o->b≠zl:=λh z=>by rw[z,hzl] at h; cases h
   have wF:=hA.grow sAF;have bF:=cH (H2:=HF) hA.b;have gl_:gr BA HA HF l=_:=eE hl (sF _ _ (sE _ _ eCl));have gd_:gr BA HA HF d=_:=eE hd (sF _ _ (sE _ _ eCd));have gs_:gr BA HA HF sk=_:=eE hskA (sF _ _ (sE _ _ eCs));have gst:gr BA HA HF st=_:=eE hstA (sF _ _ est);have gfd:gr BA HA HF fd=_:=eE hfdA (sF _ _ efd);have gla:gr BA HA HF la=_:=eE hlaA (sF _ _ ela);have gsl:gr BA HA HF sl=_:=eE hslA (sF _ _ esl);have gz_:gr BA HA HF zl=_:=eE hzlA eF;generalize gr BA HA HF=BF at wF bF gl_ gd_ gs_ gst gfd gla gsl gz_;have q0:aB BA (upd BA zl (.lst (zs.map V.int))):=aB.new (hA.b.free hzlA);have q7:aB (upd BA zl (.lst (zs.map V.int))) BF:=λb o hb=>by
     by_cases z:b=zl
     . rw[z,aI] at hb; rw[z,gz_]; exact hb
     . rw[aJ z] at hb; exact bF _ _ hb
   have qz:=aI (H:=BA) (a:=zl) (o:=.lst (zs.map V.int));have no:∀b∈dL st fd sl sk [⟨l,d,cf pz,0,kvs⟩],upd BA zl (.lst (zs.map V.int)) b=none:=λb hb=>by
     have hb:b=st\/b=fd\/b=sl\/b=sk\/b=l\/b=d:=by simpa [dL,bO] using hb
     rcases hb with rfl|rfl|rfl|rfl|rfl|rfl
     . rw[aJ (zE est)]; exact hA.b.free hstA
     . rw[aJ (zE efd)]; exact hA.b.free hfdA
     . rw[aJ (zE esl)]; exact hA.b.free hslA
     . rw[aJ (zC eCs)]; exact hA.b.free hskA
     . rw[aJ (zC eCl)]; exact hA.b.free hl
     . rw[aJ (zC eCd)]; exact hA.b.free hd
   generalize upd BA zl (.lst (zs.map V.int))=H0 at q0 q7 qz no;have S0:Sta K t H0 BF HF w [f] [] ⟨[],0⟩ ps sk [⟨l,d,cf pz,0,kvs⟩] st fd la sl 1 "q" (.int 0) 0:=by
     show#[wF,flA*>q0,PA.mono q0,q7,#[gs_,(λy hy=>by rw[HG.mp hy]; show#[gl_,gd_]),by simp,by simp,(λy hy=>by rw[HG.mp hy]; exact nls)],#[gst,gfd,gla,gsl],no,#[λz=>?_,λz=>?_],rfl,#[Gw _,Gw _,Gw _,#[Int.le_refl _,Int.le_refl _],(λk u z=>by cases z),(λv z=>by cases z)],λi g y hg hy=>?_]
     . have z:st=sk\/st=l\/st=d:=by simpa [bO] using z
       rcases z with z|z|z
       . exact nst eCs z.symm
       . exact nst eCl z.symm
       . exact nst eCd z.symm
     . have z:sl=sk\/sl=l\/sl=d:=by simpa [bO] using z
       rcases z with z|z|z
       . exact nsl eCs z.symm
       . exact nsl eCl z.symm
       . exact nsl eCd z.symm
     . have hi:i=0:=by have:=(Gq.mp hg).1; simp at this; exact this
       subst hi;cases hg;cases hy;show#[fn,row,by rw[kv]; exact alk,pz,hpz,rfl,fzA.row0,λz=>by simp at z]
   have g0:=q0 _ _ gA;clear no q0 q7 gl_ gd_ gs_ gst gfd gla gsl gz_ bF wF zC zE nst nsl est esl ela efd eCs eCd eCl sE sC sAE sAF sF eF hA gA aA haA fzA PA flA hlast alk;show#[zl,rfl,#[_,aG.of (S0.wa.b _ _ (S0.s0 _ _ qz))],(let Jv1:Nat->St->Hp->Prop:=λi σ H'=>∃(v7 v8:Kd V) (Hb:Hp) (fs:List Fm) (sent:List V) (cn:Cn) (ls:List Lf) (la:Kg) (li:Int) (lf:Str) (ans:V),σ=[⇑↥a,⇑↥gl,⇑↥al,⇑↥lh,⇑↥w.a,⇑↥sk,⇑↥st,v7,v8]/\Sta K t H0 Hb H' w fs sent cn ps sk ls st fd la sl li lf ans i/\ls≠[]; gX (xs:=zs.map V.int) Jv1 #[4,BF,16,la,17,S0,by simp] ?_ ?_ ?_)]
   . rintro i σ H' hi ⟨v7,v8,Hb,fs,sent,cn,ls,la,li,lf,ans,rfl,S,hne⟩;exact aG.of (S.wa.b _ _ (S.s0 _ _ qz))
   . rintro i pv_ σ H' hp ⟨v7,v8,Hb,fs,sent,cn,ls,la,li,lf,ans,rfl,S,hne⟩;let#[z,hz,hzm,rfl]:=cb hp;have hi32:i<32:=by rw[<- lz]; exact(Gq.mp hz).1
     show#[85,H0,Hb,w,fs,sent,cn,ps,sk,ls,st,fd,la,sl,li,lf,ans,i,z,rfl,S,hne,∅,λH1 s1=>#[5,jN ?_]];have S1:=S.grow s1;generalize gr Hb H' H1=B1 at S1;have len:=S1.len;obtain⟨ls0,x,rfl⟩:∃ls0 x,ls=ls0++[x]:=by
       rcases IR ls with e|⟨l0,x,e⟩
       . exact absurd e hne
       . rw[IS] at e; show#[l0,x,e]
     obtain⟨fs0,f3,rfl⟩:∃fs0 f3,fs=fs0++[f3]:=by
       rcases IR fs with e|⟨l0,x,e⟩
       . rw[e] at len; simp at len
       . rw[IS] at e; show#[l0,x,e]
     have hl03:fs0.length=ls0.length:=↑len
     have fw:=S1.few;have fwf:=fw.f;rw[Gv,Hr] at fwf;obtain⟨m1,m2,al3,p,hp,hF,⟨rg,hrg⟩,_⟩:=S1.tw ls0.length f3 x (by rw[<- hl03]; exact em _ _) (em _ _);have fg:Fh K H0 x.F p.rhs:=by rw[hF]; exact S1.pg.fh hp
     have hFm:x.F∈ps.map cf:=by rw[hF]; exact HX.mpr #[p,hp,rfl]
     obtain⟨r,hr⟩:∃r,x.F.rs[x.at_]?=⇑r:=#[_,HN (by rw[fg.len]; exact(Gq.mp hrg).1)]
     have hq:=fg.row _ _ _ hr hrg;have lk:=al3.l;have s01:=S1.s0.trans S1.wa.b;show#[85,H0,sk,gl,st,fd,la,sl,ps.map Pf.a,ls0,x,p.rhs,rg,cn.kv,li,lf,cn.rc,sent,ans,rfl,s01,S1.no,S1.st_.mono S1.wa.b,∅,S1.so.mono S1.wa.b,S1.ap,by have:=fw.c; lia,by have:=fw.s; lia,∅,by rw[IG]; exact aG.of g0,fg,hrg,?_];refine EK S1 hp hF hrg ∅ (λdv Hb1 H2 wa1 s2 st1=>#[5,w.a,9,wa1.o,rfl,Hb1,w,fs0,f3,sent,cn,ps.map cf,x.F,r,rg,rfl,wa1,S1.fl.mono s2,hFm,m1.symm,by rw[m2]; exact hr,s2<*hq.it,by have:=fw.s; lia,∅,st1]) ?_ ?_
     . intro dv dv2 Hb2 H2 fs2 sent2 cn2 ls2 la2 li2 lf2 ans2 S2 hne2 tw2;let#[dd,ld,d1,d2]:=tw2;let#[zz,hzz,_]:=nL S2.few.v li2 lf2;show#[5,kz #[] ld d2 d1 #[5,ai Hd #[21,Hb2,w,fs2,.non,sent2,cn2,st,fd,la2,sl,li2,zz,lf2,cn2.rc,sent2,ans2,rfl,S2.wa,S2.so.mono S2.wa.b,hzz,λH3 s3=>#[5,jN ?_]]]];have S3:=S2.grow s3;generalize gr Hb2 H2 H3=B3 at S3;have wa3:=S3.wa;show#[5,w.a,9,wa3.o,rfl,B3,w,fs2,.non,sent2,cn2,rfl,wa3,λl9 hl9=>#[.inl #[6,aG.of aI],l9,11,aI,?_]];have s4:aB H3 (upd (upd H3 l9 (.lst sent2)) l9 (.lst [])):=(aB.new hl9).upd hl9;have S4:=S3.grow s4;generalize upd (upd H3 l9 (.lst sent2)) l9 (.lst [])=H4 at s4 S4 ⊢;generalize gr B3 H3 H4=B4 at S4;show#[5,cM,λe he=>#[sk,e,11,aG.of ((aB.new he) _ _ (S4.wa.b _ _ S4.st_.e)),aG.of aI,5,ai ↑hne2 ?_]];show#[4097,S4.grow (aB.new he),hne2]
     . intro Hb2 H2 v wa2 s2 stk2 so2;let#[dd,ld,d1,d2]:=(Bg.Twin.of Bg.HasD.non:Bg.Twin K H2 2 .non .non)
       let#[zz,hzz,_]:=nL fw.v li lf;show#[5,kz #[] ld d2 d1 #[5,ai Hd #[21,Hb2,w,[],.int v,sent,cn,st,fd,la,sl,li,zz,lf,cn.rc,sent,.int v,rfl,wa2,so2*>wa2.b,hzz,λH3 s3=>#[5,jN ?_]]]];have wa3:=wa2.grow s3;have g3:=cH (H2:=H3) wa2.b;generalize gr Hb2 H2 H3=B3 at wa3 g3;show#[5,w.a,9,wa3.o,rfl,B3,w,[],.int v,sent,cn,rfl,wa3,λl9 hl9=>#[.inl #[6,aG.of aI],l9,11,aI,?_]];have s4:aB H3 (upd (upd H3 l9 (.lst sent)) l9 (.lst [])):=(aB.new hl9).upd hl9;generalize upd (upd H3 l9 (.lst sent)) l9 (.lst [])=H4 at s4 ⊢;show#[5,cM,λe he=>#[sk,e,11,aG.of ((aB.new he) _ _ (s4 _ _ (wa3.b _ _ (g3 _ _ stk2.e)))),aG.of aI,5,ao 0xA ?_]];have s5:=s4\(aB.new (o:=.lst []) he);generalize upd H4 e (.lst [])=H5 at s5 ⊢;have wa4:=wa3.grow s5;have so4:=so2*>(g3\(cH (H2:=H5) wa3.b));generalize gr B3 H3 H5=B4 at wa4 so4;have soH:=so4*>wa4.b;show#[5,w.a,9,wa4.o,rfl,B4,w,[],.int v,sent,cn,rfl,wa4,77,ai 0xA ?_];show#[5,w.a,9,wa4.o,rfl,B4,w,[],.int v,sent,cn,rfl,wa4,5,st,.int v,rfl,ck soH.st_ uY,13,ai 0xA ?_];show#[5,w.a,9,wa4.o,rfl,B4,w,[],.int v,sent,cn,rfl,wa4,#[],λl7 H7' tps hl7 s7 e7 ht _=>#[cM,λe8 he8=>?_]];have et:tps=[]:=IK ht;subst et;have s8:=s7\(aB.new (o:=.lst []) he8);have e78:=(aB.new (o:=.lst []) he8) _ _ e7;have e8:=aI (H:=H7') (a:=e8) (o:=.lst []);generalize upd H7' _ (.lst [])=H8 at s8 e78 e8 ⊢;refine Bg.Twin.eq (n:=1) (Bg.Twin.lst (n:=0) (aG.of e78) (aG.of e8) .nil) #[] #[5,ao rfl ?_];have wa5:=wa4.grow s8;have so5:=soH*>s8;show#[5,w.a,9,wa5.o,6,w,[],.int v,sent,cn,rfl,wa5,λl9 hl9=>#[5,st,↥sl,rfl,ck ((aB.new hl9) _ _ so5.st_) oE,?_]];exact Bg.Twin.eq (n:=1) (Bg.Twin.lst (n:=0) (aG.of aI) (aG.of ((aB.new hl9) _ _ so5.sl_)) (Bg.TwinA.of (Bg.HasA.of λu hu=>by let#[y,rfl]:=fw.i u hu;exact .int))) #[] (q _)
   . rintro σ H' ⟨v7,v8,Hb,fs,sent,cn,ls,la,li,lf,ans,rfl,S,hne⟩;have wa3:=S.wa;have fne:fs≠[]:=λz=>by have:=S.len; rw[z] at this; exact hne (IK this.symm)
     have so3:=S.so.mono wa3.b;show#[5,w.a,9,wa3.o,rfl,Hb,w,fs,.non,sent,cn,rfl,wa3,77,ao (by simp [fne]) ?_];show#[5,w.a,9,wa3.o,rfl,Hb,w,fs,.non,sent,cn,rfl,wa3,λl9 hl9=>#[5,st,↥sl,rfl,ck ((aB.new hl9) _ _ so3.st_) oE,?_]];exact Bg.Twin.eq (n:=1) (Bg.Twin.lst (n:=0) (aG.of aI) (aG.of ((aB.new hl9) _ _ so3.sl_)) (Bg.TwinA.of (Bg.HasA.of λu hu=>by let#[y,rfl]:=S.few.i u hu;exact .int))) #[] (q _)
end
end K25
namespace K25
open PySem L2
structure Fv where
 (oc kV dc pm cd ct:Value)
 (od an:Option Addr)
 sl:Array (Option Value)
noncomputable abbrev Fv.fn (v:Fv) (n q:Str) (s:Stmt):=W.fnOf n q (dH s) (aU s) (ac s) .none v.kV v.dc v.pm v.an v.cd v.ct
abbrev FL (K:Kh) (f:Kg) (v:Fv) (n q:Str) (s:Stmt):Prop:=K.lookup f=⇑#[v.oc,v.od,.func (v.fn n q s),v.sl]/\W.codeIn K v.cd q=true/\W.keepIn K ↥f=true
def fl_mk {K:Kh} {f:Kg} {n q:Str} {s:Stmt} {oc kV dc pm cd ct:Ke} {od an:Kd Kg} {sl:Array (Kd Ke)} (l:K.lookup f=⇑#[oc,od,.func (W.fnOf n q (dH s) (aU s) (ac s) .none kV dc pm an cd ct),sl]) (c:W.codeIn K cd q=true) (k:W.keepIn K ↥f=true):FL K f #[oc,kV,dc,pm,cd,ct,od,an,sl] n q s:=#[l,c,k]
set_option maxHeartbeats 4000000 in
def txt_mk {K:Kh} {h:Heap} {mg:Str->Kd Ke} (X:K.In h) (G:h.Ns mainGlobals mg)
   {C_Flows:Kg} (aC_Flows:W.nsIn K mainGlobals "Flows"=⇑⇑↥C_Flows) (pg_Flows:W.plainGet K C_Flows Str.empty=true) (hd_Flows:W.hasDictIn K C_Flows=true) (po_Flows:W.plainOver K C_Flows=true) (sa_Flows:W.findIn K ↥C_Flows "__setattr__"=⇑⇑(.builtin "object.__setattr__")) (mk_Flows:W.makesIn K C_Flows=true) (kc_Flows:W.keepIn K ↥C_Flows=true)
   (jB:W.findIn K ↥C_Flows "last"=⇑none)
   (jC:W.findIn K ↥C_Flows "number_of"=⇑none)
   (jA:W.findIn K ↥C_Flows "folded_of"=⇑none)
   (iG:W.findIn K ↥C_Flows "params_of"=⇑none)
   (iH:W.findIn K ↥C_Flows "rows_of"=⇑none)
   (gc:W.findIn K ↥C_Flows "names_in"=⇑none)
   (iI:W.findIn K ↥C_Flows "ways_in"=⇑none)
   {C_Walker:Kg} (aC_Walker:W.nsIn K mainGlobals "Walker"=⇑⇑↥C_Walker) (pg_Walker:W.plainGet K C_Walker Str.empty=true) (hd_Walker:W.hasDictIn K C_Walker=true) (po_Walker:W.plainOver K C_Walker=true) (sa_Walker:W.findIn K ↥C_Walker "__setattr__"=⇑⇑(.builtin "object.__setattr__")) (mk_Walker:W.makesIn K C_Walker=true) (kc_Walker:W.keepIn K ↥C_Walker=true)
   {C_TextWalker:Kg} (aC_TextWalker:W.nsIn K mainGlobals "TextWalker"=⇑⇑↥C_TextWalker) (pg_TextWalker:W.plainGet K C_TextWalker Str.empty=true) (hd_TextWalker:W.hasDictIn K C_TextWalker=true) (po_TextWalker:W.plainOver K C_TextWalker=true) (sa_TextWalker:W.findIn K ↥C_TextWalker "__setattr__"=⇑⇑(.builtin "object.__setattr__")) (mk_TextWalker:W.makesIn K C_TextWalker=true) (kc_TextWalker:W.keepIn K ↥C_TextWalker=true)
   (ez:W.findIn K ↥C_TextWalker "flows"=⇑none)
   (dX:W.findIn K ↥C_TextWalker "stack"=⇑none)
   (iK:W.findIn K ↥C_TextWalker "outcome"=⇑none)
   (iM:W.findIn K ↥C_TextWalker "sendings"=⇑none)
   (iJ:W.findIn K ↥C_TextWalker "contents"=⇑none)
   (iL:W.findIn K ↥C_TextWalker "records"=⇑none)
   {C_TextFrame:Kg} (aC_TextFrame:W.nsIn K mainGlobals "TextFrame"=⇑⇑↥C_TextFrame) (pg_TextFrame:W.plainGet K C_TextFrame Str.empty=true) (hd_TextFrame:W.hasDictIn K C_TextFrame=true) (po_TextFrame:W.plainOver K C_TextFrame=true) (sa_TextFrame:W.findIn K ↥C_TextFrame "__setattr__"=⇑⇑(.builtin "object.__setattr__")) (mk_TextFrame:W.makesIn K C_TextFrame=true) (kc_TextFrame:W.keepIn K ↥C_TextFrame=true)
   (gd:W.findIn K ↥C_TextFrame "function"=⇑none)
   (fb:W.findIn K ↥C_TextFrame "row"=⇑none)
   (eQ:W.findIn K ↥C_TextFrame "named"=⇑none)
   {f0:Kg} {y0:Fv} (a0:W.nsIn K mainGlobals "names_of"=⇑⇑↥f0) (l0:FL K f0 y0 "names_of" "names_of" iZ)
   {f1:Kg} {y1:Fv} (a1:W.nsIn K mainGlobals "reads"=⇑⇑↥f1) (l1:FL K f1 y1 "reads" "reads" kQ)
   {f2:Kg} {y2:Fv} (a2:W.nsIn K mainGlobals "gives"=⇑⇑↥f2) (l2:FL K f2 y2 "gives" "gives" mW)
   {f3:Kg} {y3:Fv} (a3:W.nsIn K mainGlobals "atoms_of"=⇑⇑↥f3) (l3:FL K f3 y3 "atoms_of" "atoms_of" kx)
   {f4:Kg} {y4:Fv} (a4:W.nsIn K mainGlobals "each_once"=⇑⇑↥f4) (l4:FL K f4 y4 "each_once" "each_once" mO)
   {f5:Kg} {y5:Fv} (a5:W.nsIn K mainGlobals "ways"=⇑⇑↥f5) (l5:FL K f5 y5 "ways" "ways" iD)
   {f6:Kg} {y6:Fv} (a6:W.nsIn K mainGlobals "begins_of"=⇑⇑↥f6) (l6:FL K f6 y6 "begins_of" "begins_of" jU)
   {f7:Kg} {y7:Fv} (a7:W.nsIn K mainGlobals "firsts_behind"=⇑⇑↥f7) (l7:FL K f7 y7 "firsts_behind" "firsts_behind" fm)
   {f8:Kg} {y8:Fv} (a8:W.findIn K ↥C_Flows "__init__"=⇑⇑↥f8) (i8:W.isFn K ↥f8=true) (l8:FL K f8 y8 "__init__" "Flows.__init__" gg)
   {f9:Kg} {y9:Fv} (a9:W.nsIn K mainGlobals "value"=⇑⇑↥f9) (l9:FL K f9 y9 "value" "value" kN)
   (ga10:W.specialIn K ↥C_Walker "__getattribute__"=⇑⇑(.builtin "type.__getattribute__")) (rd10:W.readsIn K C_Walker (.type "type")=true)
   {f10:Kg} {y10:Fv} (a10:W.findIn K ↥C_Walker "__init__"=⇑⇑↥f10) (i10:W.isFn K ↥f10=true) (l10:FL K f10 y10 "__init__" "Walker.__init__" lJ)
   (fc10:W.findCls K ↥C_Walker (.type "type") "__init__"=⇑(.val ↥f10))
   {f11:Kg} {y11:Fv} (a11:W.findIn K ↥C_TextWalker "ended"=⇑⇑↥f11) (i11:W.isFn K ↥f11=true) (l11:FL K f11 y11 "ended" "Walker.ended" lR)
   {f12:Kg} {y12:Fv} (a12:W.findIn K ↥C_TextWalker "answer"=⇑⇑↥f12) (i12:W.isFn K ↥f12=true) (l12:FL K f12 y12 "answer" "Walker.answer" lw)
   {f13:Kg} {y13:Fv} (a13:W.findIn K ↥C_TextWalker "sent"=⇑⇑↥f13) (i13:W.isFn K ↥f13=true) (l13:FL K f13 y13 "sent" "Walker.sent" kt)
   {f14:Kg} {y14:Fv} (a14:W.findIn K ↥C_TextWalker "field"=⇑⇑↥f14) (i14:W.isFn K ↥f14=true) (l14:FL K f14 y14 "field" "Walker.field" lY)
   {f15:Kg} {y15:Fv} (a15:W.findIn K ↥C_TextWalker "frames"=⇑⇑↥f15) (i15:W.isFn K ↥f15=true) (l15:FL K f15 y15 "frames" "Walker.frames" jl)
   {f16:Kg} {y16:Fv} (a16:W.findIn K ↥C_TextWalker "told"=⇑⇑↥f16) (i16:W.isFn K ↥f16=true) (l16:FL K f16 y16 "told" "Walker.told" kZ)
   {f17:Kg} {y17:Fv} (a17:W.findIn K ↥C_TextWalker "step"=⇑⇑↥f17) (i17:W.isFn K ↥f17=true) (l17:FL K f17 y17 "step" "Walker.step" m6)
   {f18:Kg} {y18:Fv} (a18:W.findIn K ↥C_TextWalker "ask_for_level"=⇑⇑↥f18) (i18:W.isFn K ↥f18=true) (l18:FL K f18 y18 "ask_for_level" "Walker.ask_for_level" kW)
   {f19:Kg} {y19:Fv} (a19:W.findIn K ↥C_TextWalker "ask_for_name"=⇑⇑↥f19) (i19:W.isFn K ↥f19=true) (l19:FL K f19 y19 "ask_for_name" "Walker.ask_for_name" ky)
   {f20:Kg} {y20:Fv} (a20:W.findIn K ↥C_TextWalker "names_at"=⇑⇑↥f20) (i20:W.isFn K ↥f20=true) (l20:FL K f20 y20 "names_at" "Walker.names_at" lC)
   {f21:Kg} {y21:Fv} (a21:W.findIn K ↥C_TextWalker "send_out"=⇑⇑↥f21) (i21:W.isFn K ↥f21=true) (l21:FL K f21 y21 "send_out" "Walker.send_out" lI)
   {f22:Kg} {y22:Fv} (a22:W.findIn K ↥C_TextWalker "put_field"=⇑⇑↥f22) (i22:W.isFn K ↥f22=true) (l22:FL K f22 y22 "put_field" "Walker.put_field" lr)
   {f23:Kg} {y23:Fv} (a23:W.findIn K ↥C_TextWalker "make_record"=⇑⇑↥f23) (i23:W.isFn K ↥f23=true) (l23:FL K f23 y23 "make_record" "Walker.make_record" lL)
   {f24:Kg} {y24:Fv} (a24:W.findIn K ↥C_TextFrame "__init__"=⇑⇑↥f24) (i24:W.isFn K ↥f24=true) (l24:FL K f24 y24 "__init__" "TextFrame.__init__" lj)
   {f25:Kg} {y25:Fv} (a25:W.findIn K ↥C_TextFrame "value_of"=⇑⇑↥f25) (i25:W.isFn K ↥f25=true) (l25:FL K f25 y25 "value_of" "TextFrame.value_of" lp)
   {f26:Kg} {y26:Fv} (a26:W.findIn K ↥C_TextWalker "__init__"=⇑⇑↥f26) (i26:W.isFn K ↥f26=true) (l26:FL K f26 y26 "__init__" "TextWalker.__init__" lO)
   {f27:Kg} {y27:Fv} (a27:W.findIn K ↥C_TextWalker "chain_of"=⇑⇑↥f27) (i27:W.isFn K ↥f27=true) (l27:FL K f27 y27 "chain_of" "TextWalker.chain_of" mQ)
   {f28:Kg} {y28:Fv} (a28:W.findIn K ↥C_TextWalker "shown_at"=⇑⇑↥f28) (i28:W.isFn K ↥f28=true) (l28:FL K f28 y28 "shown_at" "TextWalker.shown_at" kL)
   {f29:Kg} {y29:Fv} (a29:W.findIn K ↥C_TextWalker "tell"=⇑⇑↥f29) (i29:W.isFn K ↥f29=true) (l29:FL K f29 y29 "tell" "TextWalker.tell" mC)
   {f30:Kg} {y30:Fv} (a30:W.findIn K ↥C_TextWalker "walk_on"=⇑⇑↥f30) (i30:W.isFn K ↥f30=true) (l30:FL K f30 y30 "walk_on" "TextWalker.walk_on" eo)
   {f31:Kg} {y31:Fv} (a31:W.findIn K ↥C_TextWalker "begin"=⇑⇑↥f31) (i31:W.isFn K ↥f31=true) (l31:FL K f31 y31 "begin" "TextWalker.begin" iY)
   {f32:Kg} {y32:Fv} (a32:W.findIn K ↥C_TextWalker "row_of"=⇑⇑↥f32) (i32:W.isFn K ↥f32=true) (l32:FL K f32 y32 "row_of" "TextWalker.row_of" lE)
   {f33:Kg} {y33:Fv} (a33:W.findIn K ↥C_TextWalker "go_on"=⇑⇑↥f33) (i33:W.isFn K ↥f33=true) (l33:FL K f33 y33 "go_on" "TextWalker.go_on" mX)
   {f34:Kg} {y34:Fv} (a34:W.findIn K ↥C_TextWalker "go_back"=⇑⇑↥f34) (i34:W.isFn K ↥f34=true) (l34:FL K f34 y34 "go_back" "TextWalker.go_back" ia)
   {f35:Kg} {y35:Fv} (a35:W.findIn K ↥C_TextWalker "do_row"=⇑⇑↥f35) (i35:W.isFn K ↥f35=true) (l35:FL K f35 y35 "do_row" "TextWalker.do_row" iS)
   {f36:Kg} {y36:Fv} (a36:W.findIn K ↥C_TextWalker "value_given"=⇑⇑↥f36) (i36:W.isFn K ↥f36=true) (l36:FL K f36 y36 "value_given" "TextWalker.value_given" iT)
   {f37:Kg} {y37:Fv} (a37:W.nsIn K mainGlobals "_law_cell_at"=⇑⇑↥f37) (l37:FL K f37 y37 "_law_cell_at" "_law_cell_at" lV)
   {f38:Kg} {y38:Fv} (a38:W.nsIn K mainGlobals "_law_stream"=⇑⇑↥f38) (l38:FL K f38 y38 "_law_stream" "_law_stream" kA)
   {f39:Kg} {y39:Fv} (a39:W.nsIn K mainGlobals "_law_value_by"=⇑⇑↥f39) (l39:FL K f39 y39 "_law_value_by" "_law_value_by" lW)
   {f40:Kg} {y40:Fv} (a40:W.nsIn K mainGlobals "_law_whole"=⇑⇑↥f40) (l40:FL K f40 y40 "_law_whole" "_law_whole" mV)
   {f41:Kg} {y41:Fv} (a41:W.nsIn K mainGlobals "_law_behind"=⇑⇑↥f41) (l41:FL K f41 y41 "_law_behind" "_law_behind" jp)
   {f42:Kg} {y42:Fv} (a42:W.nsIn K mainGlobals "_law_opened"=⇑⇑↥f42) (l42:FL K f42 y42 "_law_opened" "_law_opened" jZ)
   {f43:Kg} {y43:Fv} (a43:W.nsIn K mainGlobals "_law_stop"=⇑⇑↥f43) (l43:FL K f43 y43 "_law_stop" "_law_stop" lB)
   {f44:Kg} {y44:Fv} (a44:W.nsIn K mainGlobals "_law_worth"=⇑⇑↥f44) (l44:FL K f44 y44 "_law_worth" "_law_worth" mR)
   {f45:Kg} {y45:Fv} (a45:W.nsIn K mainGlobals "_law_value"=⇑⇑↥f45) (l45:FL K f45 y45 "_law_value" "_law_value" kP)
   {f46:Kg} {y46:Fv} (a46:W.nsIn K mainGlobals "_law_digits"=⇑⇑↥f46) (l46:FL K f46 y46 "_law_digits" "_law_digits" lX)
   {f47:Kg} {y47:Fv} (a47:W.nsIn K mainGlobals "_law_pool"=⇑⇑↥f47) (l47:FL K f47 y47 "_law_pool" "_law_pool" jj)
   {f48:Kg} {y48:Fv} (a48:W.nsIn K mainGlobals "_law_atoms"=⇑⇑↥f48) (l48:FL K f48 y48 "_law_atoms" "_law_atoms" j')
   {f49:Kg} {y49:Fv} (a49:W.nsIn K mainGlobals "_law_mixed"=⇑⇑↥f49) (l49:FL K f49 y49 "_law_mixed" "_law_mixed" jV)
   {f50:Kg} {y50:Fv} (a50:W.nsIn K mainGlobals "_law_parts"=⇑⇑↥f50) (l50:FL K f50 y50 "_law_parts" "_law_parts" iz)
   {f51:Kg} {y51:Fv} (a51:W.nsIn K mainGlobals "_law_frame"=⇑⇑↥f51) (l51:FL K f51 y51 "_law_frame" "_law_frame" jJ)
   {f52:Kg} {y52:Fv} (a52:W.nsIn K mainGlobals "_law_free_row"=⇑⇑↥f52) (l52:FL K f52 y52 "_law_free_row" "_law_free_row" eB)
   {f53:Kg} {y53:Fv} (a53:W.nsIn K mainGlobals "_law_body"=⇑⇑↥f53) (l53:FL K f53 y53 "_law_body" "_law_body" eO)
   {f54:Kg} {y54:Fv} (a54:W.nsIn K mainGlobals "_law_stations"=⇑⇑↥f54) (l54:FL K f54 y54 "_law_stations" "_law_stations" da)
   {f55:Kg} {y55:Fv} (a55:W.nsIn K mainGlobals "_law_gone_back"=⇑⇑↥f55) (l55:FL K f55 y55 "_law_gone_back" "_law_gone_back" im)
   {f56:Kg} {y56:Fv} (a56:W.nsIn K mainGlobals "_law_entered"=⇑⇑↥f56) (l56:FL K f56 y56 "_law_entered" "_law_entered" jQ)
   {f57:Kg} {y57:Fv} (a57:W.nsIn K mainGlobals "_law_given"=⇑⇑↥f57) (l57:FL K f57 y57 "_law_given" "_law_given" fE)
   {f58:Kg} {y58:Fv} (a58:W.nsIn K mainGlobals "_law_field_told"=⇑⇑↥f58) (l58:FL K f58 y58 "_law_field_told" "_law_field_told" lS)
   {f59:Kg} {y59:Fv} (a59:W.nsIn K mainGlobals "_law_digit_program"=⇑⇑↥f59) (l59:FL K f59 y59 "_law_digit_program" "_law_digit_program" eD)
   {f60:Kg} {y60:Fv} (a60:W.nsIn K mainGlobals "_law_drawn"=⇑⇑↥f60) (l60:FL K f60 y60 "_law_drawn" "_law_drawn" ka)
   {f61:Kg} {y61:Fv} (a61:W.nsIn K mainGlobals "_law_moved"=⇑⇑↥f61) (l61:FL K f61 y61 "_law_moved" "_law_moved" gK)
   {f62:Kg} {y62:Fv} (a62:W.nsIn K mainGlobals "_law_stands"=⇑⇑↥f62) (l62:FL K f62 y62 "_law_stands" "_law_stands" gQ)
   {f63:Kg} {y63:Fv} (a63:W.nsIn K mainGlobals "law"=⇑⇑↥f63) (l63:FL K f63 y63 "law" "law" fP)
   {tk0:Tok} (w0:W.nsIn K mainGlobals "WIDE"=⇑⇑(.int 281474976710656 tk0))
   {aT0:Kg} {odT0:Kd Kg} {itT0:Array Ke} {nT0:Nat} {slT0:Array (Kd Ke)} (q0:W.nsIn K mainGlobals "GIVING_KINDS"=⇑⇑↥aT0) (m0:K.lookup aT0=⇑#[.type "tuple",odT0,.seq itT0 nT0,slT0]) (v0:ae (K12.giving.map V.str) itT0.toList) (s0:itT0.size<=sizeLine)
   {aD0:Kg} (qD0:W.nsIn K mainGlobals "ATOM_PLACES"=⇑⇑↥aD0) (mD0:PyProof.Rows.KTD.tabLook (mJ K) (λa=>K.lookup a) aD0 K12.tabl=true)
   (z_len:W.nsIn K mainGlobals "len"=⇑none)
   (z_list:W.nsIn K mainGlobals "list"=⇑none)
   (z_tuple:W.nsIn K mainGlobals "tuple"=⇑none)
   (z_isinstance:W.nsIn K mainGlobals "isinstance"=⇑none)
   (z_range:W.nsIn K mainGlobals "range"=⇑none)
   (z_enumerate:W.nsIn K mainGlobals "enumerate"=⇑none)
   (z_dict:W.nsIn K mainGlobals "dict"=⇑none)
   (z_str:W.nsIn K mainGlobals "str"=⇑none)
   (z_min:W.nsIn K mainGlobals "min"=⇑none)
   (z_max:W.nsIn K mainGlobals "max"=⇑none)
   (z_int:W.nsIn K mainGlobals "int"=⇑none)
   (z_zip:W.nsIn K mainGlobals "zip"=⇑none)
   (z_bool:W.nsIn K mainGlobals "bool"=⇑none)
   : ∃t,Txt K mg t:=by
 show#[#[C_Flows,C_Walker,C_TextWalker,C_TextFrame,f0,y0.fn "names_of" "names_of" iZ,f1,y1.fn "reads" "reads" kQ,f2,y2.fn "gives" "gives" mW,f3,y3.fn "atoms_of" "atoms_of" kx,f4,y4.fn "each_once" "each_once" mO,f5,y5.fn "ways" "ways" iD,f6,y6.fn "begins_of" "begins_of" jU,f7,y7.fn "firsts_behind" "firsts_behind" fm,f8,y8.fn "__init__" "Flows.__init__" gg,f9,y9.fn "value" "value" kN,f10,y10.fn "__init__" "Walker.__init__" lJ,f11,y11.fn "ended" "Walker.ended" lR,f12,y12.fn "answer" "Walker.answer" lw,f13,y13.fn "sent" "Walker.sent" kt,f14,y14.fn "field" "Walker.field" lY,f15,y15.fn "frames" "Walker.frames" jl,f16,y16.fn "told" "Walker.told" kZ,f17,y17.fn "step" "Walker.step" m6,f18,y18.fn "ask_for_level" "Walker.ask_for_level" kW,f19,y19.fn "ask_for_name" "Walker.ask_for_name" ky,f20,y20.fn "names_at" "Walker.names_at" lC,f21,y21.fn "send_out" "Walker.send_out" lI,f22,y22.fn "put_field" "Walker.put_field" lr,f23,y23.fn "make_record" "Walker.make_record" lL,f24,y24.fn "__init__" "TextFrame.__init__" lj,f25,y25.fn "value_of" "TextFrame.value_of" lp,f26,y26.fn "__init__" "TextWalker.__init__" lO,f27,y27.fn "chain_of" "TextWalker.chain_of" mQ,f28,y28.fn "shown_at" "TextWalker.shown_at" kL,f29,y29.fn "tell" "TextWalker.tell" mC,f30,y30.fn "walk_on" "TextWalker.walk_on" eo,f31,y31.fn "begin" "TextWalker.begin" iY,f32,y32.fn "row_of" "TextWalker.row_of" lE,f33,y33.fn "go_on" "TextWalker.go_on" mX,f34,y34.fn "go_back" "TextWalker.go_back" ia,f35,y35.fn "do_row" "TextWalker.do_row" iS,f36,y36.fn "value_given" "TextWalker.value_given" iT,f37,y37.fn "_law_cell_at" "_law_cell_at" lV,f38,y38.fn "_law_stream" "_law_stream" kA,f39,y39.fn "_law_value_by" "_law_value_by" lW,f40,y40.fn "_law_whole" "_law_whole" mV,f41,y41.fn "_law_behind" "_law_behind" jp,f42,y42.fn "_law_opened" "_law_opened" jZ,f43,y43.fn "_law_stop" "_law_stop" lB,f44,y44.fn "_law_worth" "_law_worth" mR,f45,y45.fn "_law_value" "_law_value" kP,f46,y46.fn "_law_digits" "_law_digits" lX,f47,y47.fn "_law_pool" "_law_pool" jj,f48,y48.fn "_law_atoms" "_law_atoms" j',f49,y49.fn "_law_mixed" "_law_mixed" jV,f50,y50.fn "_law_parts" "_law_parts" iz,f51,y51.fn "_law_frame" "_law_frame" jJ,f52,y52.fn "_law_free_row" "_law_free_row" eB,f53,y53.fn "_law_body" "_law_body" eO,f54,y54.fn "_law_stations" "_law_stations" da,f55,y55.fn "_law_gone_back" "_law_gone_back" im,f56,y56.fn "_law_entered" "_law_entered" jQ,f57,y57.fn "_law_given" "_law_given" fE,f58,y58.fn "_law_field_told" "_law_field_told" lS,f59,y59.fn "_law_digit_program" "_law_digit_program" eD,f60,y60.fn "_law_drawn" "_law_drawn" ka,f61,y61.fn "_law_moved" "_law_moved" gK,f62,y62.fn "_law_stands" "_law_stands" gQ,f63,y63.fn "law" "law" fP,aT0,aD0],?_];have bl:∀(s:Kf) (u:Ke),BindsTo s (y63.fn "law" "law" fP) ⟨[u],[]⟩ [("_law_script",u)]:=λs u=>.of_eq rfl;show#[(bi X G a0 l0.1 l0.2.1 l0.2.2 λ_ _ _ _ _ _ us hl=>match us,hl with | [_],_=>rfl),
   (bi X G a1 l1.1 l1.2.1 l1.2.2 λ_ _ _ _ _ _ us hl=>match us,hl with | [_],_=>rfl),
   (bi X G a2 l2.1 l2.2.1 l2.2.2 λ_ _ _ _ _ _ us hl=>match us,hl with | [_],_=>rfl),
   (bi X G a3 l3.1 l3.2.1 l3.2.2 λ_ _ _ _ _ _ us hl=>match us,hl with | [_],_=>rfl),
   (bi X G a4 l4.1 l4.2.1 l4.2.2 λ_ _ _ _ _ _ us hl=>match us,hl with | [_],_=>rfl),
   (bi X G a5 l5.1 l5.2.1 l5.2.2 λ_ _ _ _ _ _ us hl=>match us,hl with | [_],_=>rfl),
   (bi X G a6 l6.1 l6.2.1 l6.2.2 λ_ _ _ _ _ _ us hl=>match us,hl with | [_],_=>rfl),
   (bi X G a7 l7.1 l7.2.1 l7.2.2 λ_ _ _ _ _ _ us hl=>match us,hl with | [_,_],_=>rfl),
   (oX mk_Flows kc_Flows a8 i8 l8.1 l8.2.1 l8.2.2 λ_ _ _ _ _ _ us hl=>match us,hl with | [_,_],_=>rfl),
   (bi X G a9 l9.1 l9.2.1 l9.2.2 λ_ _ _ _ _ _ us hl=>match us,hl with | [_,_,_],_=>rfl),
   (Co ga10 rd10 fc10 l10.1 l10.2.1 l10.2.2 λ_ _ _ _ _ _ us hl=>match us,hl with | [_,_],_=>rfl),
   (cZ a11 i11 l11.1 l11.2.1 l11.2.2 λ_ _ _ _ _ _ us hl=>match us,hl with | [_],_=>rfl),
   (cZ a12 i12 l12.1 l12.2.1 l12.2.2 λ_ _ _ _ _ _ us hl=>match us,hl with | [_],_=>rfl),
   (cZ a13 i13 l13.1 l13.2.1 l13.2.2 λ_ _ _ _ _ _ us hl=>match us,hl with | [_],_=>rfl),
   (cZ a14 i14 l14.1 l14.2.1 l14.2.2 λ_ _ _ _ _ _ us hl=>match us,hl with | [_,_,_],_=>rfl),
   (cZ a15 i15 l15.1 l15.2.1 l15.2.2 λ_ _ _ _ _ _ us hl=>match us,hl with | [_],_=>rfl),
   (cZ a16 i16 l16.1 l16.2.1 l16.2.2 λ_ _ _ _ _ _ us hl=>match us,hl with | [_,_,_],_=>rfl),
   (cZ a17 i17 l17.1 l17.2.1 l17.2.2 λ_ _ _ _ _ _ us hl=>match us,hl with | [_],_=>rfl),
   (cZ a18 i18 l18.1 l18.2.1 l18.2.2 λ_ _ _ _ _ _ us hl=>match us,hl with | [_,_],_=>rfl),
   (cZ a19 i19 l19.1 l19.2.1 l19.2.2 λ_ _ _ _ _ _ us hl=>match us,hl with | [_,_,_],_=>rfl),
   (cZ a20 i20 l20.1 l20.2.1 l20.2.2 λ_ _ _ _ _ _ us hl=>match us,hl with | [_,_],_=>rfl),
   (cZ a21 i21 l21.1 l21.2.1 l21.2.2 λ_ _ _ _ _ _ us hl=>match us,hl with | [_,_],_=>rfl),
   (cZ a22 i22 l22.1 l22.2.1 l22.2.2 λ_ _ _ _ _ _ us hl=>match us,hl with | [_,_,_,_],_=>rfl),
   (cZ a23 i23 l23.1 l23.2.1 l23.2.2 λ_ _ _ _ _ _ us hl=>match us,hl with | [_],_=>rfl),
   (oX mk_TextFrame kc_TextFrame a24 i24 l24.1 l24.2.1 l24.2.2 λ_ _ _ _ _ _ us hl=>match us,hl with | [_,_,_],_=>rfl),
   (cZ a25 i25 l25.1 l25.2.1 l25.2.2 λ_ _ _ _ _ _ us hl=>match us,hl with | [_,_],_=>rfl),
   (oX mk_TextWalker kc_TextWalker a26 i26 l26.1 l26.2.1 l26.2.2 λ_ _ _ _ _ _ us hl=>match us,hl with | [_,_,_],_=>rfl),
   (cZ a27 i27 l27.1 l27.2.1 l27.2.2 λ_ _ _ _ _ _ us hl=>match us,hl with | [_,_],_=>rfl),
   (cZ a28 i28 l28.1 l28.2.1 l28.2.2 λ_ _ _ _ _ _ us hl=>match us,hl with | [_,_],_=>rfl),
   (cZ a29 i29 l29.1 l29.2.1 l29.2.2 λ_ _ _ _ _ _ us hl=>match us,hl with | [_,_,_],_=>rfl),
   (cZ a30 i30 l30.1 l30.2.1 l30.2.2 λ_ _ _ _ _ _ us hl=>match us,hl with | [_],_=>rfl),
   (cZ a31 i31 l31.1 l31.2.1 l31.2.2 λ_ _ _ _ _ _ us hl=>match us,hl with | [_,_,_],_=>rfl),
   (cZ a32 i32 l32.1 l32.2.1 l32.2.2 λ_ _ _ _ _ _ us hl=>match us,hl with | [_,_],_=>rfl),
   (cZ a33 i33 l33.1 l33.2.1 l33.2.2 λ_ _ _ _ _ _ us hl=>match us,hl with | [_,_,_],_=>rfl),
   (cZ a34 i34 l34.1 l34.2.1 l34.2.2 λ_ _ _ _ _ _ us hl=>match us,hl with | [_,_],_=>rfl),
   (cZ a35 i35 l35.1 l35.2.1 l35.2.2 λ_ _ _ _ _ _ us hl=>match us,hl with | [_,_,_],_=>rfl),
   (cZ a36 i36 l36.1 l36.2.1 l36.2.2 λ_ _ _ _ _ _ us hl=>match us,hl with | [_,_,_],_=>rfl),
   (bi X G a37 l37.1 l37.2.1 l37.2.2 λ_ _ _ _ _ _ us hl=>match us,hl with | [_,_],_=>rfl),
   (bi X G a38 l38.1 l38.2.1 l38.2.2 λ_ _ _ _ _ _ us hl=>match us,hl with | [_,_],_=>rfl),
   (bi X G a39 l39.1 l39.2.1 l39.2.2 λ_ _ _ _ _ _ us hl=>match us,hl with | [_],_=>rfl),
   (bi X G a40 l40.1 l40.2.1 l40.2.2 λ_ _ _ _ _ _ us hl=>match us,hl with | [_],_=>rfl),
   (bi X G a41 l41.1 l41.2.1 l41.2.2 λ_ _ _ _ _ _ us hl=>match us,hl with | [_,_,_],_=>rfl),
   (bi X G a42 l42.1 l42.2.1 l42.2.2 λ_ _ _ _ _ _ us hl=>match us,hl with | [_,_],_=>rfl),
   (bi X G a43 l43.1 l43.2.1 l43.2.2 λ_ _ _ _ _ _ us hl=>match us,hl with | [_,_],_=>rfl),
   (bi X G a44 l44.1 l44.2.1 l44.2.2 λ_ _ _ _ _ _ us hl=>match us,hl with | [_,_],_=>rfl),
   (bi X G a45 l45.1 l45.2.1 l45.2.2 λ_ _ _ _ _ _ us hl=>match us,hl with | [_,_,_],_=>rfl),
   (bi X G a46 l46.1 l46.2.1 l46.2.2 λ_ _ _ _ _ _ us hl=>match us,hl with | [_,_],_=>rfl),
   (bi X G a47 l47.1 l47.2.1 l47.2.2 λ_ _ _ _ _ _ us hl=>match us,hl with | [_,_],_=>rfl),
   (bi X G a48 l48.1 l48.2.1 l48.2.2 λ_ _ _ _ _ _ us hl=>match us,hl with | [_,_,_],_=>rfl),
   (bi X G a49 l49.1 l49.2.1 l49.2.2 λ_ _ _ _ _ _ us hl=>match us,hl with | [_],_=>rfl),
   (bi X G a50 l50.1 l50.2.1 l50.2.2 λ_ _ _ _ _ _ us hl=>match us,hl with | [_],_=>rfl),
   (bi X G a51 l51.1 l51.2.1 l51.2.2 λ_ _ _ _ _ _ us hl=>match us,hl with | [_,_],_=>rfl),
   (bi X G a52 l52.1 l52.2.1 l52.2.2 λ_ _ _ _ _ _ us hl=>match us,hl with | [_,_,_,_],_=>rfl),
   (bi X G a53 l53.1 l53.2.1 l53.2.2 λ_ _ _ _ _ _ us hl=>match us,hl with | [_,_,_,_,_],_=>rfl),
   (bi X G a54 l54.1 l54.2.1 l54.2.2 λ_ _ _ _ _ _ us hl=>match us,hl with | [_],_=>rfl),
   (bi X G a55 l55.1 l55.2.1 l55.2.2 λ_ _ _ _ _ _ us hl=>match us,hl with | [_,_],_=>rfl),
   (bi X G a56 l56.1 l56.2.1 l56.2.2 λ_ _ _ _ _ _ us hl=>match us,hl with | [_,_,_,_],_=>rfl),
   (bi X G a57 l57.1 l57.2.1 l57.2.2 λ_ _ _ _ _ _ us hl=>match us,hl with | [_,_,_],_=>rfl),
   (bi X G a58 l58.1 l58.2.1 l58.2.2 λ_ _ _ _ _ _ us hl=>match us,hl with | [_,_],_=>rfl),
   (bi X G a59 l59.1 l59.2.1 l59.2.2 λ_ _ _ _ _ _ us hl=>match us,hl with | [_,_,_],_=>rfl),
   (bi X G a60 l60.1 l60.2.1 l60.2.2 λ_ _ _ _ _ _ us hl=>match us,hl with | [_,_],_=>rfl),
   (bi X G a61 l61.1 l61.2.1 l61.2.2 λ_ _ _ _ _ _ us hl=>match us,hl with | [_,_,_],_=>rfl),
   (bi X G a62 l62.1 l62.2.1 l62.2.2 λ_ _ _ _ _ _ us hl=>match us,hl with | [_,_,_],_=>rfl),
   (bi X G a63 l63.1 l63.2.1 l63.2.2 λ_ _ _ _ _ _ us hl=>match us,hl with | [_],_=>rfl),
   #[#[pg_Flows,hd_Flows,po_Flows,sa_Flows],W.mg_of X G aC_Flows],
   #[#[pg_Walker,hd_Walker,po_Walker,sa_Walker],W.mg_of X G aC_Walker],
   #[#[pg_TextWalker,hd_TextWalker,po_TextWalker,sa_TextWalker],W.mg_of X G aC_TextWalker],
   #[#[pg_TextFrame,hd_TextFrame,po_TextFrame,sa_TextFrame],W.mg_of X G aC_TextFrame],
   jB,
   jC,
   jA,
   iG,
   iH,
   gc,
   iI,
   ez,
   dX,
   iK,
   iM,
   iJ,
   iL,
   gd,
   fb,
   eQ,
   #[_,W.mg_of X G w0],
   W.mg_of X G q0,
   (λH=>.inr #[_,itT0,nT0,m0,7,s0,v0]),
   W.mg_of X G qD0,
   Fi mD0,
   W.mg_none_of X G z_len,
   W.mg_none_of X G z_list,
   W.mg_none_of X G z_tuple,
   W.mg_none_of X G z_isinstance,
   W.mg_none_of X G z_range,
   W.mg_none_of X G z_enumerate,
   W.mg_none_of X G z_dict,
   W.mg_none_of X G z_str,
   W.mg_none_of X G z_min,
   W.mg_none_of X G z_max,
   W.mg_none_of X G z_int,
   W.mg_none_of X G z_zip,
   W.mg_none_of X G z_bool,
   bl]
end K25
end
open PySem PySem.W PyProof.Rows
set_option maxRecDepth 100000 in
set_option maxHeartbeats 0 in
theorem PySem.Challenge.cw_stopglass_k25_whole_walks_holds : PySem.Challenge.rw_stopglass_k25_whole_walks.Holds := by
 refine Hd.pk.2 ?_
 unfold Hd.pk
 dsimp only
 k_fill
 refine L2.walk_ofK (l:=PySem.Challenge.rw_stopglass_k25_whole_walks) (n:=63) (k:=9) (x:="_law_script") (CX:=L2.CX0) (sp:=K25.sp_law) rfl (by decide) rfl ⟨rfl,by decide,by decide⟩ (λw h Y=>PySem.W.kIn_of Y) ?F ?S ?C
 case F =>
   intro w mg fa h KX G hmg;have T:∃t,K25.Txt (L2.KOf KX) mg t:=by
     dsimp only[L2.KOf]
     refine' K25.txt_mk KX G ?aC_Flows ?pg_Flows ?hd_Flows ?po_Flows ?sa_Flows ?mk_Flows ?kc_Flows ?jB ?jC ?jA ?iG ?iH ?gc ?iI ?aC_Walker ?pg_Walker ?hd_Walker ?po_Walker ?sa_Walker ?mk_Walker ?kc_Walker ?aC_TextWalker ?pg_TextWalker ?hd_TextWalker ?po_TextWalker ?sa_TextWalker ?mk_TextWalker ?kc_TextWalker ?ez ?dX ?iK ?iM ?iJ ?iL ?aC_TextFrame ?pg_TextFrame ?hd_TextFrame ?po_TextFrame ?sa_TextFrame ?mk_TextFrame ?kc_TextFrame ?gd ?fb ?eQ ?a0 ?l0 ?a1 ?l1 ?a2 ?l2 ?a3 ?l3 ?a4 ?l4 ?a5 ?l5 ?a6 ?l6 ?a7 ?l7 ?a8 ?i8 ?l8 ?a9 ?l9 ?ga10 ?rd10 ?a10 ?i10 ?l10 ?fc10 ?a11 ?i11 ?l11 ?a12 ?i12 ?l12 ?a13 ?i13 ?l13 ?a14 ?i14 ?l14 ?a15 ?i15 ?l15 ?a16 ?i16 ?l16 ?a17 ?i17 ?l17 ?a18 ?i18 ?l18 ?a19 ?i19 ?l19 ?a20 ?i20 ?l20 ?a21 ?i21 ?l21 ?a22 ?i22 ?l22 ?a23 ?i23 ?l23 ?a24 ?i24 ?l24 ?a25 ?i25 ?l25 ?a26 ?i26 ?l26 ?a27 ?i27 ?l27 ?a28 ?i28 ?l28 ?a29 ?i29 ?l29 ?a30 ?i30 ?l30 ?a31 ?i31 ?l31 ?a32 ?i32 ?l32 ?a33 ?i33 ?l33 ?a34 ?i34 ?l34 ?a35 ?i35 ?l35 ?a36 ?i36 ?l36 ?a37 ?l37 ?a38 ?l38 ?a39 ?l39 ?a40 ?l40 ?a41 ?l41 ?a42 ?l42 ?a43 ?l43 ?a44 ?l44 ?a45 ?l45 ?a46 ?l46 ?a47 ?l47 ?a48 ?l48 ?a49 ?l49 ?a50 ?l50 ?a51 ?l51 ?a52 ?l52 ?a53 ?l53 ?a54 ?l54 ?a55 ?l55 ?a56 ?l56 ?a57 ?l57 ?a58 ?l58 ?a59 ?l59 ?a60 ?l60 ?a61 ?l61 ?a62 ?l62 ?a63 ?l63 ?w0 ?q0 ?m0 ?v0 ?s0 ?qD0 ?mD0 ?z_len ?z_list ?z_tuple ?z_isinstance ?z_range ?z_enumerate ?z_dict ?z_str ?z_min ?z_max ?z_int ?z_zip ?z_bool
     (case aC_Flows=>k_is)
     (case pg_Flows=>k_is)
     (case hd_Flows=>k_is)
     (case po_Flows=>k_is)
     (case sa_Flows=>k_is)
     (case mk_Flows=>k_is)
     (case kc_Flows=>k_is)
     (case jB=>k_is)
     (case jC=>k_is)
     (case jA=>k_is)
     (case iG=>k_is)
     (case iH=>k_is)
     (case gc=>k_is)
     (case iI=>k_is)
     (case aC_Walker=>k_is)
     (case pg_Walker=>k_is)
     (case hd_Walker=>k_is)
     (case po_Walker=>k_is)
     (case sa_Walker=>k_is)
     (case mk_Walker=>k_is)
     (case kc_Walker=>k_is)
     (case aC_TextWalker=>k_is)
     (case pg_TextWalker=>k_is)
     (case hd_TextWalker=>k_is)
     (case po_TextWalker=>k_is)
     (case sa_TextWalker=>k_is)
     (case mk_TextWalker=>k_is)
     (case kc_TextWalker=>k_is)
     (case ez=>k_is)
     (case dX=>k_is)
     (case iK=>k_is)
     (case iM=>k_is)
     (case iJ=>k_is)
     (case iL=>k_is)
     (case aC_TextFrame=>k_is)
     (case pg_TextFrame=>k_is)
     (case hd_TextFrame=>k_is)
     (case po_TextFrame=>k_is)
     (case sa_TextFrame=>k_is)
     (case mk_TextFrame=>k_is)
     (case kc_TextFrame=>k_is)
     (case gd=>k_is)
     (case fb=>k_is)
     (case eQ=>k_is)
     (case a0=>k_is)
     (case l0=>apply K25.fl_mk <;> k_is)
     (case a1=>k_is)
     (case l1=>apply K25.fl_mk <;> k_is)
     (case a2=>k_is)
     (case l2=>apply K25.fl_mk <;> k_is)
     (case a3=>k_is)
     (case l3=>apply K25.fl_mk <;> k_is)
     (case a4=>k_is)
     (case l4=>apply K25.fl_mk <;> k_is)
     (case a5=>k_is)
     (case l5=>apply K25.fl_mk <;> k_is)
     (case a6=>k_is)
     (case l6=>apply K25.fl_mk <;> k_is)
     (case a7=>k_is)
     (case l7=>apply K25.fl_mk <;> k_is)
     (case a8=>k_is)
     (case i8=>k_is)
     (case l8=>apply K25.fl_mk <;> k_is)
     (case a9=>k_is)
     (case l9=>apply K25.fl_mk <;> k_is)
     (case ga10=>first|k_is|kernel_rfl)
     (case rd10=>first|k_is|kernel_rfl)
     (case a10=>k_is)
     (case i10=>k_is)
     (case l10=>apply K25.fl_mk <;> k_is)
     (case fc10=>first|k_is|kernel_rfl)
     (case a11=>k_is)
     (case i11=>k_is)
     (case l11=>apply K25.fl_mk <;> k_is)
     (case a12=>k_is)
     (case i12=>k_is)
     (case l12=>apply K25.fl_mk <;> k_is)
     (case a13=>k_is)
     (case i13=>k_is)
     (case l13=>apply K25.fl_mk <;> k_is)
     (case a14=>k_is)
     (case i14=>k_is)
     (case l14=>apply K25.fl_mk <;> k_is)
     (case a15=>k_is)
     (case i15=>k_is)
     (case l15=>apply K25.fl_mk <;> k_is)
     (case a16=>k_is)
     (case i16=>k_is)
     (case l16=>apply K25.fl_mk <;> k_is)
     (case a17=>k_is)
     (case i17=>k_is)
     (case l17=>apply K25.fl_mk <;> k_is)
     (case a18=>k_is)
     (case i18=>k_is)
     (case l18=>apply K25.fl_mk <;> k_is)
     (case a19=>k_is)
     (case i19=>k_is)
     (case l19=>apply K25.fl_mk <;> k_is)
     (case a20=>k_is)
     (case i20=>k_is)
     (case l20=>apply K25.fl_mk <;> k_is)
     (case a21=>k_is)
     (case i21=>k_is)
     (case l21=>apply K25.fl_mk <;> k_is)
     (case a22=>k_is)
     (case i22=>k_is)
     (case l22=>apply K25.fl_mk <;> k_is)
     (case a23=>k_is)
     (case i23=>k_is)
     (case l23=>apply K25.fl_mk <;> k_is)
     (case a24=>k_is)
     (case i24=>k_is)
     (case l24=>apply K25.fl_mk <;> k_is)
     (case a25=>k_is)
     (case i25=>k_is)
     (case l25=>apply K25.fl_mk <;> k_is)
     (case a26=>k_is)
     (case i26=>k_is)
     (case l26=>apply K25.fl_mk <;> k_is)
     (case a27=>k_is)
     (case i27=>k_is)
     (case l27=>apply K25.fl_mk <;> k_is)
     (case a28=>k_is)
     (case i28=>k_is)
     (case l28=>apply K25.fl_mk <;> k_is)
     (case a29=>k_is)
     (case i29=>k_is)
     (case l29=>apply K25.fl_mk <;> k_is)
     (case a30=>k_is)
     (case i30=>k_is)
     (case l30=>apply K25.fl_mk <;> k_is)
     (case a31=>k_is)
     (case i31=>k_is)
     (case l31=>apply K25.fl_mk <;> k_is)
     (case a32=>k_is)
     (case i32=>k_is)
     (case l32=>apply K25.fl_mk <;> k_is)
     (case a33=>k_is)
     (case i33=>k_is)
     (case l33=>apply K25.fl_mk <;> k_is)
     (case a34=>k_is)
     (case i34=>k_is)
     (case l34=>apply K25.fl_mk <;> k_is)
     (case a35=>k_is)
     (case i35=>k_is)
     (case l35=>apply K25.fl_mk <;> k_is)
     (case a36=>k_is)
     (case i36=>k_is)
     (case l36=>apply K25.fl_mk <;> k_is)
     (case a37=>k_is)
     (case l37=>apply K25.fl_mk <;> k_is)
     (case a38=>k_is)
     (case l38=>apply K25.fl_mk <;> k_is)
     (case a39=>k_is)
     (case l39=>apply K25.fl_mk <;> k_is)
     (case a40=>k_is)
     (case l40=>apply K25.fl_mk <;> k_is)
     (case a41=>k_is)
     (case l41=>apply K25.fl_mk <;> k_is)
     (case a42=>k_is)
     (case l42=>apply K25.fl_mk <;> k_is)
     (case a43=>k_is)
     (case l43=>apply K25.fl_mk <;> k_is)
     (case a44=>k_is)
     (case l44=>apply K25.fl_mk <;> k_is)
     (case a45=>k_is)
     (case l45=>apply K25.fl_mk <;> k_is)
     (case a46=>k_is)
     (case l46=>apply K25.fl_mk <;> k_is)
     (case a47=>k_is)
     (case l47=>apply K25.fl_mk <;> k_is)
     (case a48=>k_is)
     (case l48=>apply K25.fl_mk <;> k_is)
     (case a49=>k_is)
     (case l49=>apply K25.fl_mk <;> k_is)
     (case a50=>k_is)
     (case l50=>apply K25.fl_mk <;> k_is)
     (case a51=>k_is)
     (case l51=>apply K25.fl_mk <;> k_is)
     (case a52=>k_is)
     (case l52=>apply K25.fl_mk <;> k_is)
     (case a53=>k_is)
     (case l53=>apply K25.fl_mk <;> k_is)
     (case a54=>k_is)
     (case l54=>apply K25.fl_mk <;> k_is)
     (case a55=>k_is)
     (case l55=>apply K25.fl_mk <;> k_is)
     (case a56=>k_is)
     (case l56=>apply K25.fl_mk <;> k_is)
     (case a57=>k_is)
     (case l57=>apply K25.fl_mk <;> k_is)
     (case a58=>k_is)
     (case l58=>apply K25.fl_mk <;> k_is)
     (case a59=>k_is)
     (case l59=>apply K25.fl_mk <;> k_is)
     (case a60=>k_is)
     (case l60=>apply K25.fl_mk <;> k_is)
     (case a61=>k_is)
     (case l61=>apply K25.fl_mk <;> k_is)
     (case a62=>k_is)
     (case l62=>apply K25.fl_mk <;> k_is)
     (case a63=>k_is)
     (case l63=>apply K25.fl_mk <;> k_is)
     (case w0=>k_is)
     (case q0=>k_is)
     (case m0=>k_is)
     (case v0=>(repeat (first|exact .nil|refine .cons ⟨_,rfl⟩ ?_)))
     (case s0=>decide)
     (case qD0=>k_is)
     (case mD0=>kernel_rfl)
     (case z_len=>k_is)
     (case z_list=>k_is)
     (case z_tuple=>k_is)
     (case z_isinstance=>k_is)
     (case z_range=>k_is)
     (case z_enumerate=>k_is)
     (case z_dict=>k_is)
     (case z_str=>k_is)
     (case z_min=>k_is)
     (case z_max=>k_is)
     (case z_int=>k_is)
     (case z_zip=>k_is)
     (case z_bool=>k_is)
   obtain⟨t,T⟩:=T;have e0:=hmg.symm.trans T.law.g;cases e0;exact⟨t.mY,T.bl,λbase kb nb=>K25.ok_law T⟩
 case S=>exact λK H a ns hl hO hS=>⟨a,ns,rfl,hS,hl,λ_=>rfl⟩
 case C=>exact λ_ _ _ _ z=>z
