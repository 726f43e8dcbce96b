import PyProof.Rows.All
import Wide.All
import OpenK.AllK
import Wide.FinOn
import Lean
import PyProof.EqAt
import PyProof.EqKinds
import PyProof.TupleCall
import KE.KDictLaws
import KE.KDictOf
import KE.KEqDict
import KE.BitLaws
import PyProof.ZipIter
import PyProof.Rows.ZipGen
import PyProof.Rows.StrSplitAre
import PyProof.ExcInit
import PyProof.ExcBaseAll.ValueError
import PyProof.PassesOwn
import PyProof.StationsW
import PyProof.InstStoreFacts
import PyProof.ExcAttrAll.ValueError
import PyProof.NsDelKeeps
import KE.KListMore
import PyProof.P3Eq
import PyProof.Rows.TupDisplay
import PyProof.StrLawsReplace
import PyProof.StrCalls6
import PyProof.Rows.StrStrike
import KE.IntTextText
import KE.KIntText
import KE.KRevIter
import KE.KDictList
import PySem.Challenge.RW_stopglass_k45_calls_and_backs_held
set_option Elab.async false
set_option linter.all false
set_option maxRecDepth 100000
section
namespace Hd
open PySem PySem.W PyProof.Rows
lay_quick PySem.W.topFrom
noncomputable abbrev TQ := PySem.W.Fast.tw370005188180407882 PySem.W.Fast.tw14364793385576792824
noncomputable abbrev OQ := PySem.W.Fast.tw4187177175401517315
noncomputable abbrev tp : Program := PySem.Challenge.pw_stopglass_k45_calls_and_backs_held
abbrev lo : List Str := [PySem.Str.ofString "ATOM_PLACES", PySem.Str.ofString "FILLED_PLACES"]
def keeps : PySem.Stmt → Bool
 | .Assign [.Name x _] _ _ => !decide (x = "__name__")
 | _ => true
def viewOf (p : Program) : Program := { p with main := { p.main with body := p.main.body.filter keeps } }
abbrev Xf : Program → Shared → Bool := (fun p s => xlAt (viewOf p) [] s && recOk (RowW.records (OpenRow.toRowW (OpenLaw.row PySem.Challenge.rw_stopglass_k45_calls_and_backs_held))) s)
noncomputable def S0 (w : World) (os : OsState) : Shared := ⟨boot_heap w.params, Array.mk [], boot_drawn, boot_toks, os⟩
theorem ws : PySem.Challenge.rw_stopglass_k45_calls_and_backs_held.wellSaid = true := by kernel_rfl
section
local macro_rules | `(tactic| o_head $H) => `(tactic| (case Hk => exact $H))
noncomputable def hk : (H : Hook) ×' ((∀ P : Prop, P) → PySem.Challenge.rw_stopglass_k45_calls_and_backs_held.Holds) := by
 refine ⟨?Hk, fun h => ?m⟩
 rotate_left
 w_on; refine holds_law ws fun said => ?_; k_head; exact h _
end
theorem opt3 {σ α β γ : Type} {x : Option σ} {f : σ → α × β} {g : σ → γ} {a : α × β} {c : γ} (h1 : x.map (fun s => (f s).1) = some a.1) (h2 : x.map (fun s => (f s).2) = some a.2) (h3 : x.map g = some c) : x.map (fun s => (f s, g s)) = some (a, c) := by
 cases x with
 | none => cases h1
 | some s =>
  have e1 : (f s).1 = a.1 := Option.some.inj h1
  have e2 : (f s).2 = a.2 := Option.some.inj h2
  have e3 : g s = c := Option.some.inj h3
  show some (f s, g s) = some (a, c)
  rw [show f s = a from Prod.ext e1 e2, e3]
theorem r0a : ∀ (w : World) (os : OsState), (TQ tp (w.withFollow "special-get-raises" false) 20000 (S0 (w.withFollow "special-get-raises" false) os)).map (fun s => (OQ (viewOf tp) lo (importedModules tp.main.body) (Xf tp) true s).1) = some (openGood (viewOf tp) lo).1 := by
 intro w os; kernel_rfl
theorem r0b : ∀ (w : World) (os : OsState), (TQ tp (w.withFollow "special-get-raises" false) 20000 (S0 (w.withFollow "special-get-raises" false) os)).map (fun s => (OQ (viewOf tp) lo (importedModules tp.main.body) (Xf tp) true s).2) = some (openGood (viewOf tp) lo).2 := by
 intro w os; kernel_rfl
theorem r0c : ∀ (w : World) (os : OsState), (TQ tp (w.withFollow "special-get-raises" false) 20000 (S0 (w.withFollow "special-get-raises" false) os)).map (fun s => Hook.obs hk.1 s) = some (Hook.val hk.1 (w.withFollow "special-get-raises" false)) := by
 intro w os; kernel_rfl
theorem r0 : ∀ (w : World) (os : OsState), (TQ tp (w.withFollow "special-get-raises" false) 20000 (S0 (w.withFollow "special-get-raises" false) os)).map (fun s => (OQ (viewOf tp) lo (importedModules tp.main.body) (Xf tp) true s, Hook.obs hk.1 s)) = some (openGood (viewOf tp) lo, Hook.val hk.1 (w.withFollow "special-get-raises" false)) := fun w os => opt3 (r0a w os) (r0b w os) (r0c w os)
theorem r1a : ∀ (w : World) (os : OsState), (TQ tp (w.withFollow "special-get-raises" true) 20000 (S0 (w.withFollow "special-get-raises" true) os)).map (fun s => (OQ (viewOf tp) lo (importedModules tp.main.body) (Xf tp) true s).1) = some (openGood (viewOf tp) lo).1 := by
 intro w os; kernel_rfl
theorem r1b : ∀ (w : World) (os : OsState), (TQ tp (w.withFollow "special-get-raises" true) 20000 (S0 (w.withFollow "special-get-raises" true) os)).map (fun s => (OQ (viewOf tp) lo (importedModules tp.main.body) (Xf tp) true s).2) = some (openGood (viewOf tp) lo).2 := by
 intro w os; kernel_rfl
theorem r1c : ∀ (w : World) (os : OsState), (TQ tp (w.withFollow "special-get-raises" true) 20000 (S0 (w.withFollow "special-get-raises" true) os)).map (fun s => Hook.obs hk.1 s) = some (Hook.val hk.1 (w.withFollow "special-get-raises" true)) := by
 intro w os; kernel_rfl
theorem r1 : ∀ (w : World) (os : OsState), (TQ tp (w.withFollow "special-get-raises" true) 20000 (S0 (w.withFollow "special-get-raises" true) os)).map (fun s => (OQ (viewOf tp) lo (importedModules tp.main.body) (Xf tp) true s, Hook.obs hk.1 s)) = some (openGood (viewOf tp) lo, Hook.val hk.1 (w.withFollow "special-get-raises" true)) := fun w os => opt3 (r1a w os) (r1b w os) (r1c w os)
theorem left_twin {p p' : Program} {F : Program → Program} {X : Program → Shared → Bool} {loose : List Str} {α : Type} {Yf : Shared → α} {Ya : World → α} {N : Nat} {g0 : Bool} (row : String) (ep : p = p') (e : opening p = plainProg p.main.scope.names) (hN : Nat.ble 600 N = true) (f : ∀ s, fenceModules? p s = some s)
  (h0 : ∀ (w : World) (os : OsState), (TQ p' (w.withFollow row false) N (S0 (w.withFollow row false) os)).map (fun s => (OQ (F p') loose (importedModules p'.main.body) (X p') g0 s, Yf s)) = some (openGood (F p') loose, Ya (w.withFollow row false)))
  (h1 : ∀ (w : World) (os : OsState), (TQ p' (w.withFollow row true) N (S0 (w.withFollow row true) os)).map (fun s => (OQ (F p') loose (importedModules p'.main.body) (X p') g0 s, Yf s)) = some (openGood (F p') loose, Ya (w.withFollow row true))) : LeftO p (F p) loose (X p) Yf Ya N g0 := fun w => by
 subst ep
 have key : ∀ b, (openEnds treeTable p (w.withFollow row b) N).map (fun s => (openSeen (F p) loose (importedModules p.main.body) (X p) g0 s, Yf s)) = some (openGood (F p) loose, Ya (w.withFollow row b)) := by
  intro b
  obtain ⟨s, hs, hv⟩ := Option.map_eq_some_iff.mp (boot_open e hN f (w.withFollow row b))
  have es : s = S0 (w.withFollow row b) s.os := by
   cases s
   simp only [Prod.mk.injEq] at hv
   obtain ⟨a1, a2, a3, a4⟩ := hv
   subst a1 a2 a3 a4
   rfl
  unfold openEnds
  rw [hs, es, PySem.W.Fast.te370005188180407882, PySem.W.Fast.te14364793385576792824, PySem.W.Fast.te4187177175401517315]
  cases b
  . exact h0 w s.os
  . exact h1 w s.os
 have e0 := World.withFollow_self w row
 have := key (w.params.followText row)
 rwa [e0] at this
theorem left : LeftO PySem.Challenge.pw_stopglass_k45_calls_and_backs_held (viewOf PySem.Challenge.pw_stopglass_k45_calls_and_backs_held) lo (Xf PySem.Challenge.pw_stopglass_k45_calls_and_backs_held) (Hook.obs hk.1) (Hook.val hk.1) 20000 true :=
 left_twin (p := PySem.Challenge.pw_stopglass_k45_calls_and_backs_held) (p' := tp) (F := viewOf) (X := Xf) (loose := lo) (Yf := Hook.obs hk.1) (Ya := Hook.val hk.1) (N := 20000) (g0 := true) "special-get-raises" rfl (by kernel_rfl) (by decide) (fun s => by kernel_rfl) r0 r1
theorem left_of {H : Hook} (e : H = hk.1) : LeftO PySem.Challenge.pw_stopglass_k45_calls_and_backs_held (viewOf PySem.Challenge.pw_stopglass_k45_calls_and_backs_held) lo (Xf PySem.Challenge.pw_stopglass_k45_calls_and_backs_held) (Hook.obs H) (Hook.val H) 20000 true := by subst e; exact left
local macro_rules | `(tactic| o_head $H) => `(tactic| (
 refine holds_open (q := viewOf PySem.Challenge.pw_stopglass_k45_calls_and_backs_held) (loose := lo) (Xt := Xf PySem.Challenge.pw_stopglass_k45_calls_and_backs_held) (XP := XL (viewOf PySem.Challenge.pw_stopglass_k45_calls_and_backs_held) []) (Yf := Hook.obs $H) (Ya := Hook.val $H) (YP := Hook.says $H) (N := 20000) ?hl (Hook.of $H) (Hook.keeps $H) (fun s e => xl_of s (Bool.and_eq_true_iff.mp e).1) XL.keeps (by rfl) (by rfl) (by rfl) (fun s e => recFacts_of (Bool.and_eq_true_iff.mp e).2) (by rfl) (by assumption) (by decide +kernel) ⟨rfl, rfl, rfl, rfl, rfl, by decide +kernel⟩ ?hw ?hc
 (case hl => exact left_of (H := $H) (by kernel_rfl))))
set_option maxHeartbeats 0 in
noncomputable def pk : (G : Prop) ×' (G → PySem.Challenge.rw_stopglass_k45_calls_and_backs_held.Holds) := by
 refine' ⟨_, fun h => _⟩
 rotate_left
 w_on; refine holds_law ws fun said => ?_; k_head; (case hw => w_witness2)
 exact h
end Hd
end
open PySem renaming wpAny_bind->JD,wpAny_pure->JQ,wpAny_field->K4,wpAny_holding->K6,wpAny_call_entry->KJ,wpAny_seqItems->KW,wpAny_truthy_bool->KY,wpAny_pyIter_tuple->Kj,wpAny_setField_rec->Kk,wpAny_newObj_type->Ko,wpAny_Call_Name_kw->Kq,wpAny_pyIter_list->Kw,wpAny_typeOf->Kz,wpAny_passesOwn->L9,wpAny_mono->LI,wpAny_pyIter_enum->LN,wpAny_isTrue_Compare1->LY,codeAny_builtin->Lg,wpAny_rule->Lh,wpAny_updateSeq_pair->Li,wpAny_ite_split->Ln,wpAny_letOwnedTupleGo_enum->M3,wpAny_onRaise->M4,wpAny_attempt->M5,wpAny_sequenceKey->M7,wpAny_pyHash_str->M9,wpAny_execs_cons->MA,codeAny_mono->MC,wpAny_isInstance->ME,wpAny_pyIter_zip->MG,wpAny_Call_method0_late->MI,wpAny_pyNext_enum_itemD->MM,wpAny_execs_nil->MQ,wpAny_specialOf->MR,wpAny_letGo->MT,wpAny_standAt->MV
open List renaming length_map->JE,length_append->JF,map_append->JL,mem_singleton->JO,mem_cons->JT,mem_append->JV,mem_cons_of_mem->JY,mem_cons_self->JZ,size_toArray->Ja,map_cons->Jd,mem_map->Jh,length_take->Jk,append_assoc->Jn,length_cons->Jo,mem_append_right->Jq,length_replicate->Jr,take_length->Jw,foldl_append->K0,append_nil->K5,map_map->K7,mem_append_left->KB,idxOf_cons_self->KC,length_set->KD,take_add_one->KE,length_drop->KI,getElem_mem->KL,nodup_cons->KN,length_zip->KZ,map_nil->Kb,mem_replicate->Kc,replicate_succ->Kf,lookup_cons->Kg,all_eq_true->Kh,flatten_cons->Kp,idxOf_lt_length_of_mem->Ks,length_nil->Kt,length_range->Kx,nodup_append->Ky,foldl_cons->L3,getElem_of_mem->L8,of_mem_zip->LA,forIn_cons->LB,drop_zero->LJ,filter_cons_of_neg->LM,all_eq_false->LP,take_of_length_le->LV,any_cons->LW,take_append_drop->Lc,nil_append->Ld,mem_of_mem_take->Ll,mem_of_mem_drop->Lm,filterMap_cons->Lp,forIn_nil->Lu,mem_filterMap->Lw,filter_cons_of_pos->MP,mem_range->MU,all_cons->MW,take_nil->MY,map_drop->MZ
open Nat renaming le_refl->JN,lt_of_lt_of_le->Ji,le_trans->Jj,zero_le->Jm,ne_of_lt->Js,lt_irrefl->K2,not_lt_zero->K9,sub_self->KG,ne_of_gt->Ka,lt_succ_iff_lt_or_eq->Km,le_of_lt->LC,le_succ->LQ,lt_trans->Le,sub_zero->Lj,mod_two_eq_zero_or_one->M6,lt_succ_self->MB,min_eq_right->MH,min_eq_left->MS
open PySem.Heap renaming lt_size->JX,size_push->Kd
open PySem.F renaming plainAttrs_list->Jc,slot_list_append->Jt,type_list_append->Ju,slot_list_index->KQ,type_list_index->KR,slot_zip_next->Kl,slot_tuple_iterator_next->Kv,args_tuple_add_2->LG,slot_list_getattribute->LH,entry_tuple_add->LK,slot_zip_getattribute->LL,args_zip_next_1->LO,slot_tuple_add->LR,entry_zip_next->LX,slot_dict_get->Lb,slot_dict_itemiterator_iter->Lo,args_tuple_iterator_next_1->Lr,entry_tuple_iterator_next->Ly,kt_typeCall_dict_1->M1,args_dict_init_2->MD,args_dict_get_3->MJ,plainAttrs_dict->MK,entry_dict_init->ML,slot_dict_items->MN
open Bool renaming false_ne_true->Je,and_eq_true->Jl,and_false->Jx,true_and->K3,eq_iff_iff->K8,false_and->Ki,false_eq_true->Lx,or_false->M0,and_true->MX
open Option renaming map_eq_some_iff->Jg,isSome_iff_exists->LD,map_some->Lf,bind_eq_some_iff->MO
open PyProof.Rows renaming callWith_type1->Jv,slot_tuple_getitem->KF,bitOr_and->LU
open Int renaming toNat_natCast->KA,eq_ofNat_of_zero_le->KP,emod_lt_of_pos->Kr,emod_nonneg->L5,zero_add->L7,fdiv_eq_ediv_of_nonneg->Lz
open Array renaming length_toList->Lq
abbrev JG:=@decide_eq_true
abbrev JH:=@List.getElem?_eq_some_iff
abbrev JI:=@if_neg
abbrev JJ:=@PySem.Heap.get?_push_of_some
abbrev JM:=@List.mem_of_getElem?
abbrev JP:=@decide_eq_false
abbrev JR:=@if_pos
abbrev JS:=@List.getElem?_map
abbrev JU:=@List.getElem?_eq_getElem
abbrev JW:=@congrArg
abbrev Jb:=@PySem.Heap.get?_push_size
abbrev Jf:=@List.getElem?_append_right
abbrev Jp:=@List.getElem?_of_mem
abbrev Jy:=@List.getElem?_eq_none_iff
abbrev Jz:=@List.getElem?_zip_eq_some
abbrev J':=@List.not_mem_nil
abbrev K1:=@decide_eq_true_eq
abbrev KH:=@List.getElem?_set_self
abbrev KM:=@List.getElem?_append_left
abbrev KS:=@List.getElem?_set_ne
abbrev KU:=@List.getD_eq_getElem?_getD
abbrev Ke:=@of_decide_eq_true
abbrev Ku:=@List.getElem?_eq_none
abbrev K':=@List.mem_map_of_mem
abbrev L4:=@List.find?_cons
abbrev L6:=@List.ext_getElem?
abbrev LF:=@List.getElem?_take_of_lt
abbrev LS:=@PySem.Heap.get?_update_other
abbrev LZ:=@PySem.Heap.get?_update_self
abbrev La:=@Array.getElem?_toList
abbrev M8:=@beq_iff_eq
local macro_rules | `(tactic| walk_at "s") => `(tactic| exact ⟨rfl, rfl, rfl, by decide +kernel, rfl, by decide +kernel, by decide +kernel⟩)

set_option genSizeOf false
set_option bootstrap.genMatcherCode false
set_option compiler.extract_closed false
section
open Lean in
local macro_rules(kind:=Lean.Parser.Command.declaration)|s=>do{let d:=s[1];if s[0].getArgs.any fun x=>!x.getArgs.isEmpty then{Macro.throwUnsupported};let q←`(command|noncomputable def x:=y);let r:Syntax←(match d.getKind with|``Parser.Command.definition=>pure (s.setArg 1 (mkNode ``Parser.Command.theorem #[mkAtom "theorem ",d[1],mkNode ``Parser.Command.declSig #[d[2][0],d[2][1][0]],d[3]]))|``Parser.Command.abbrev=>if d[3][1].isOfKind ``Parser.Term.explicit then Macro.throwUnsupported else pure (mkNode s.getKind #[q.raw[0],mkNode ``Parser.Command.definition #[mkAtom "def ",d[1],d[2],d[3],mkNullNode]])|_=>Macro.throwUnsupported);return r.rewriteBottomUp fun x=>x.setInfo .none}
local macro_rules|`(#[$x,*])=>do{if x.getElems.isEmpty then{return ← `(by decide)};let mut a:Array Lean.Term:= .empty;for e in x.getElems do{let l:=(e.raw.isLit? `num).getD "0";if l.front=='0' then{a:=a.push e}else{for c in(Nat.toDigits 2 l.toNat!).tail do{a:=a.push (← if c=='1' then`(rfl)else`(_))}}};`(⟨$a,*⟩)}
local macro_rules|`(∅)=>`(by lia)
local macro_rules|`(tactic|let#[$x,*]:=$e)=>do{let a←x.getElems.mapM fun|`(_)=>`(rcasesPat|_)|`($i:ident)=>`(rcasesPat|$i:ident)|_=>Lean.Macro.throwUnsupported;`(tactic|obtain⟨$[$a:rcasesPat],*⟩:=$e)}
local macro_rules|`(tactic|show#[$x,*])=>`(tactic|refine#[$x,*])
local macro_rules|`(⇑$x)=>`(some $x)|`(↑$x)=>`(by simpa using $x)|`(↥$x)=>`(.ref $x)
local macro_rules|`($a\$b)=>`(($a).trans $b)|`($a*>$b)=>`(($a).mono $b)|`($a<*$b)=>`(($a).tup $b)
set_option hygiene false in
local macro_rules|`(0x0)=>`(by rfl)|`(0x1)=>`((show bX _ (.builtin "len") (cP K) from cR))|`(0x2)=>`((λacc kv=>ae acc kv.1 kv.2))|`(0x3)=>`(by decide +kernel)|`(0x4)=>`((aQ "marks" (V.ref mk) (aQ "spots" (V.ref sp) (aQ "flows" (V.ref fl) []))))|`(0x5)=>`((model X.prog X.w))|`(0x6)=>`(by simp)|`(0x7)=>`(by walk_at "u")|`(0x8)=>`((Or.inl rfl))|`(0x9)=>`((model prog w))|`(0xA)=>`((List.toArray []))|`(0xB)=>`(by intro z; cases z)|`(0xC)=>`((V.str.inj (aq z)))
noncomputable abbrev JK:=Option
noncomputable abbrev Ma:=PySem.Value
noncomputable abbrev Mb:=PySem.Shared
noncomputable abbrev Mc:=PySem.Addr
noncomputable abbrev Md:=PySem.W.Frag
namespace L2
open PySem PySem.Spec PyProof.Rows
noncomputable abbrev aI:=Sum Int Str
abbrev iq:aI->Ma->Bool
 | .inl k,v=>Value.isInt k v
 | .inr x,v=>Value.isStrOf x v
abbrev Gr (w:World):aI->Int
 | .inl k=>hashInt k
 | .inr x=>hashStr w x
def gK:∀{k:aI} {v:Ma},iq k v=true->(∃i t,k=Sum.inl i/\v=Value.int i t)\/(∃x t,k=Sum.inr x/\v=Value.str x t)
 | .inl i,v,h=>by let#[t,e]:=Value.isInt_shape (k:=i) (v:=v) h;exact .inl #[i,t,rfl,e]
 | .inr x,v,h=>by let#[t,e]:=Value.isStrOf_shape (x:=x) (v:=v) h;exact .inr #[x,t,rfl,e]
def Ct (i:Int) (t:Tok):iq (.inl i) (.int i t)=true:=by simp [iq,Value.isInt]
def Ip (x:Str) (t:Tok):iq (.inr x) (.str x t)=true:=by simp [iq,Value.isStrOf]
def CO (a b:Int):decide ((Sum.inl a:aI)=Sum.inl b)=(a==b):=by
 by_cases e:a=b
 . subst e; simp
 . have h:¬ (Sum.inl a:aI)=Sum.inl b:=λq=>e (Sum.inl.inj q);rw[JP h];exact(beq_eq_false_iff_ne.mpr e).symm
def Ap (a b:Str):decide ((Sum.inr a:aI)=Sum.inr b)=decide (a=b):=by
 by_cases e:a=b
 . subst e; simp
 . have h:¬ (Sum.inr a:aI)=Sum.inr b:=λq=>e (Sum.inr.inj q);rw[JP h,JP e]
def EW (a:Int) (b:Str):decide ((Sum.inl a:aI)=Sum.inr b)=false:=JP (λq=>nomatch q)
def Ib (a:Str) (b:Int):decide ((Sum.inr a:aI)=Sum.inl b)=false:=JP (λq=>nomatch q)
abbrev cN (prog:Program) (w:World):PySem.KeyKind prog w aI where
 is:=iq
 hash:=Gr w
 inj:=λv a b ha hb=>by
   rcases gK ha with⟨i,t,rfl,rfl⟩|⟨x,t,rfl,rfl⟩
   . rcases gK hb with⟨j,u,rfl,e⟩|⟨y,u,rfl,e⟩
     . injection e with e1 _; rw[e1]
     . exact nomatch e
   . rcases gK hb with⟨j,u,rfl,e⟩|⟨y,u,rfl,e⟩
     . exact nomatch e
     . injection e with e1 _; rw[e1]
 byValue:=λk v h=>by rcases gK h with⟨i,t,rfl,rfl⟩|⟨x,t,rfl,rfl⟩ <;> rfl
 pyHash:=λhv h=>by
   rcases gK hv with⟨i,t,rfl,rfl⟩|⟨x,t,rfl,rfl⟩
   . exact wpAny_pyHash_int h
   . exact M9 h
 eqBool:=λhu hv h=>by
   rcases gK hu with⟨i,t,rfl,rfl⟩|⟨x,t,rfl,rfl⟩
   . rcases gK hv with⟨j,u,rfl,rfl⟩|⟨y,u,rfl,rfl⟩
     . rw[CO] at h; exact wpAny_eqBool_int h
     . rw[EW] at h; exact SeqAt.EqAt.int_str i t y u _ _ _ _ h
   . rcases gK hv with⟨j,u,rfl,rfl⟩|⟨y,u,rfl,rfl⟩
     . rw[Ib] at h; exact SeqAt.EqAt.str_int x t j u _ _ _ _ h
     . rw[Ap] at h; exact wpAny_eqBool_str h
 «strs»:=λk x t v h=>by
   rcases gK h with⟨i,u,rfl,e⟩|⟨y,u,rfl,e⟩
   . exact nomatch e
   . injection e with e1 _
     subst e1;cases v <;> rfl
def EU (prog:Program) (w:World) (i:Int) (t:Tok):(cN prog w).is (.inl i) (.int i t)=true:=Ct i t
def CP (prog:Program) (w:World) (x:Str) (t:Tok):(cN prog w).is (.inr x) (.str x t)=true:=Ip x t
inductive V where
 | non|bl (b:Bool)|int (i:Int)|str (x:Str)|byt (b:Array UInt8)|flt (b:UInt64)|ref (a:Addr)|ty (n:String)
 deriving DecidableEq
abbrev bC:V->Ma->Prop
 | .non,u=>u=Value.none
 | .bl b,u=>u=Value.bool b
 | .int i,u=>∃t,u=Value.int i t
 | .str x,u=>∃t,u=Value.str x t
 | .byt b,u=>∃t,u=Value.bytes b t
 | .flt b,u=>∃t,u=Value.float b t
 | .ref a,u=>u=Value.ref a
 | .ty n,u=>u=Value.type n
noncomputable abbrev ao:List V->List Ma->Prop:=Paired bC
def ao.length {xs:List V} {us:List Ma} (r:ao xs us):xs.length=us.length:=Paired.length r
def ao.get:∀{xs:List V} {us:List Ma} {i:Nat} {x:V},ao xs us->xs[i]?=⇑x->∃u,us[i]?=⇑u/\bC x u:=by
 intro xs us i x h e
 induction h generalizing i with
 | nil=>simp at e
 | cons r t ih =>
   cases i with
   | zero=>simp at e; subst e; show#[5,r]
   | succ i =>
     let#[u,h1,h2]:=ih (i:=i) ↑e;show#[u,by simpa using h1,h2]
variable {u:Ma}
def ao.set {x:V} (r:bC x u):∀{xs:List V} {us:List Ma} (i:Nat),ao xs us->ao (xs.set i x) (us.set i u):=by
 intro xs us i h
 induction h generalizing i with
 | nil=>exact .nil
 | cons q t ih =>
   cases i with
   | zero=>exact .cons r t
   | succ i=>exact .cons q (ih i)
def ao.append:∀{xs ys:List V} {us ws:List Ma},ao xs us->ao ys ws->ao (xs++ys) (us++ws):=by
 intro xs ys us ws h s
 induction h with
 | nil=>exact s
 | cons r t ih=>exact .cons r ih
def ao.take:∀{xs:List V} {us:List Ma} (n:Nat),ao xs us->ao (xs.take n) (us.take n)
 | _,_,0,_=>.nil
 | _,_,_+1,.nil=>.nil
 | _,_,n+1,.cons r t=>.cons r (ao.take n t)
def ao.drop:∀{xs:List V} {us:List Ma} (n:Nat),ao xs us->ao (xs.drop n) (us.drop n)
 | _,_,0,r=>r
 | _,_,_+1,.nil=>.nil
 | _,_,n+1,.cons _ t=>ao.drop n t
def ao.none_of:∀{xs:List V} {us:List Ma} {i:Nat},ao xs us->xs[i]?=none->us[i]?=none:=λ{xs us i} r e=>by have h1:=r.length;have h2:xs.length<=i:=Jy.mp e;exact Jy.mpr ∅
abbrev dQ:JK V->JK Ma->Prop
 | some v,⇑u=>bC v u
 | none,none=>True
 | _,_=>False
abbrev KV {κ:Type}:List (κ×V)->List (κ×Ma)->Prop:=Paired λ(p:κ×V) (q:κ×Ma)=>p.1=q.1/\bC p.2 q.2
abbrev kV:aI->V
 | .inl i=>.int i
 | .inr x=>.str x
inductive HO where
 | lst (xs:List V)
 | tup (xs:List V)
 | dK (kvs:List (aI×V))|dT (kvs:List (List aI×V))
 | set (S:Int->Bool) (n:Nat)
 | ins (C dx:Addr) (fs:List (Str×V))
 | own (x:Addr)
 | xd (fs:List (Str×V))
 | met (f x:Addr)
 | rng (lo hi:Int)
 | frz (o:Obj) (u:HO)
 | tbl (ps:Array Value)
 | ext (φ:Heap->Prop)
noncomputable abbrev Hp:=Mc->JK HO
abbrev upd (H:Hp) (a:Mc) (o:HO):Hp:=λb=>if b=a then ⇑o else H b
variable {H:Hp} {o:HO}
def aG {a:Mc} :upd H a o a=⇑o:=by unfold upd; rw[JR rfl]
variable {b:Mc}
def am {a:Mc}(h:b≠a):upd H a o b=H b:=by unfold upd; rw[JI h]
def oE {a:Mc} {u:HO}:upd (upd H a o) a u=upd H a u:=by funext b; unfold upd; split <;> rfl
def fq {a:Mc}{u:HO}(h:H a=⇑o) (h':H b=⇑u) (d:o≠u):a≠b:=by intro e; subst e; rw[h] at h'; exact d (Option.some.inj h')
def cS {a:Mc}(h:H a=⇑o) (h':H b=none):a≠b:=by intro e; subst e; rw[h] at h'; cases h'
section
variable (P:Program) (w:World)
abbrev cJ (H:Hp) (h:Heap) (a:Mc):HO->Prop
 | .lst xs=>xs.length<=sizeLine/\∃(its:List Ma) (n:Nat),ao xs its/\h.get? a=some { cls:=.type "list",data:=.seq its.toArray n }
 | .tup xs=>xs.length<=sizeLine/\∃its:List Ma,ao xs its/\IsTup h a its.toArray
 | .dK kvs=>kvs.length<=sizeLine/\(a==sysModules)=false/\∃vs,KV kvs vs/\h.DictOf (cN P w) a vs
 | .dT kvs=>kvs.length<=sizeLine/\(a==sysModules)=false/\∃xs:List (List aI×Mc×Ma),
     Paired (λ(p:List aI×V) (q:List aI×Mc×Ma)=>p.1=q.1/\H q.2.1=⇑(.tup (p.1.map kV))/\bC p.2 q.2.2) kvs xs /\
     ∃o es ep,h.get? a=⇑o/\o.ExactDict/\o.data=.dict es ep/\es.toList=xs.map (entryOfKey (tupleKind (cN P w)))/\(xs.map (·.1)).Nodup
 | .set S n=>h.SetOf (intKind P w) a S n
 | .ins C dx fs=>H dx=⇑(.own a)/\fs.length<=1000/\dx≠a/\h.get? a=⇑(PySem.W.instObj C dx) /\
     ∃mA,h.Ns1 dx mA/\(∀f,dQ (fs.lookup f) (mA f))/\PySem.Within mA (fs.map (·.1))
 | .own _=>∃o,h.get? a=⇑o
 | .xd fs=>∃mA,h.Ns1 a mA/\∀f,dQ (fs.lookup f) (mA f)
 | .rng lo hi=>∃t u v,h.get? a=some { cls:=.type "range",data:=.fields (List.toArray [.int lo t,.int hi u,.int 1 v]) }
 | .frz o u=>h.get? a=⇑o/\cJ H h a u
 | .tbl ps=>h.get? a=some { cls:=.none,data:=.fields ps }
 | .met f x=>h.get? a=⇑(PySem.W.methodObj ↥f ↥x)
 | .ext φ=>φ h/\(∃o,h.get? a=⇑o)/\∀h1 h2:Heap,φ h1->(∀o,h1.get? a=⇑o->h2.get? a=⇑o)->φ h2
abbrev cC (H:Hp) (h:Heap):Prop:=∀a o,H a=⇑o->cJ P w H h a o
end
section
variable {P:Program} {w:World} {H H':Hp} {h h':Heap} {a:Mc} {o:HO}
def cJ.lt (x:cJ P w H h a o):a<h.objs.size:=by
 cases o with
 | lst xs=>let#[_,_,_,_,e]:=x; exact JX e
 | tup xs=>let#[_,_,_,p]:=x; exact p.lt
 | dK kvs=>let#[_,_,_,_,o,_,_,e,_]:=x; exact JX e
 | dT kvs=>let#[_,_,_,_,o,_,_,e,_]:=x; exact JX e
 | set S n=>let#[o,_,_,_,e,_]:=x; exact JX e
 | ins C dx fs=>let#[_,_,_,e,_]:=x; exact JX e
 | own y=>let#[_,e]:=x; exact JX e
 | xd fs=>obtain⟨_,⟨_,_,_,e,_⟩,_⟩:=x; exact JX e
 | rng lo hi=>let#[_,_,_,e]:=x; exact JX e
 | frz ob u=>let#[e,_]:=x; exact JX e
 | tbl ps=>exact JX (show h.get? a=⇑_ from x)
 | met f y=>exact JX (show h.get? a=⇑_ from x)
 | ext φ=>obtain⟨_,⟨_,e⟩,_⟩:=x; exact JX e
def Paired.mapP {α β:Type} {F G:α->β->Prop}:∀{l₁:List α} {l₂:List β},Paired F l₁ l₂->(∀a b,F a b->G a b)->Paired G l₁ l₂:=by
 intro l₁ l₂ h f
 induction h with
 | nil=>exact .nil
 | cons r t ih=>exact .cons (f _ _ r) ih
def cJ.stay (x:cJ P w H h a o) (k:∀b u,(b=a\/H b=⇑(.own a))->h.get? b=⇑u->h'.get? b=⇑u)
   (ho:∀b,H b=⇑(.own a)->H' b=⇑(.own a)) (ht:∀b xs,H b=⇑(.tup xs)->H' b=⇑(.tup xs)):cJ P w H' h' a o:=by
 induction o with
 | lst xs=>let#[z,its,n,r,e]:=x; show#[z,its,n,r,k _ _ (.inl rfl) e]
 | tup xs=>let#[z,its,r,ob,e,c]:=x; show#[z,its,r,ob,k _ _ (.inl rfl) e,c]
 | dK kvs=>let#[z,y,vs,r,ob,es,ep,e,c]:=x; show#[z,y,vs,r,ob,es,ep,k _ _ (.inl rfl) e,c]
 | dT kvs =>
   let#[z,y,xs,r,ob,es,ep,e,c]:=x;show#[z,y,xs,Paired.mapP r λp q z=>#[z.1,ht _ _ z.2.1,z.2.2],ob,es,ep,k _ _ (.inl rfl) e,c]
 | set S n=>let#[ob,es,ep,t,e,c]:=x; show#[ob,es,ep,t,k _ _ (.inl rfl) e,c]
 | ins C dx fs =>
   obtain⟨d,z,ne,e,mA,⟨od,es,ep,e2,c⟩,r⟩:=x;show#[ho _ d,z,ne,k _ _ (.inl rfl) e,mA,#[od,es,ep,k _ _ (.inr d) e2,c],r]
 | own y=>let#[ob,e]:=x; show#[ob,k _ _ (.inl rfl) e]
 | xd fs=>obtain⟨mA,⟨od,es,ep,e,c⟩,r⟩:=x; show#[mA,#[od,es,ep,k _ _ (.inl rfl) e,c],r]
 | rng lo hi=>let#[t,u,v,e]:=x; show#[t,u,v,k _ _ (.inl rfl) e]
 | frz ob u ih=>let#[e,q]:=x; show#[k _ _ (.inl rfl) e,ih q]
 | tbl ps =>
   have e:h.get? a=some { cls:=.none,data:=.fields ps }:=x;show h'.get? a=some { cls:=.none,data:=.fields ps };exact k a _ (.inl rfl) e
 | met f y =>
   have e:h.get? a=⇑(PySem.W.methodObj ↥f ↥y):=x;show h'.get? a=⇑(PySem.W.methodObj ↥f ↥y);exact k a _ (.inl rfl) e
 | ext φ=>obtain⟨p,⟨o,e⟩,st⟩:=x; show#[st _ _ p λo q=>k _ _ (.inl rfl) q,#[o,k _ _ (.inl rfl) e],st]
def cC.lt (x:cC P w H h) (e:H a=⇑o):a<h.objs.size:=(x a o e).lt
def cC.fresh (x:cC P w H h) (e:h.objs.size<=a):H a=none:=by
 cases q:H a with
 | none=>rfl
 | some u=>exact absurd (Ji (x.lt q) e) (K2 _)
def cC.kept (x:cC P w H h) (k:∀b u,h.get? b=⇑u->h'.get? b=⇑u):cC P w H h':=λa o e =>
 (x a o e).stay (λb u _ q=>k b u q) (λ_ q=>q) λ_ _ q=>q
def cC.laid (x:cC P w H h) (k:∀b u,h.get? b=⇑u->h'.get? b=⇑u) (hp:h.objs.size<=a) (new:cJ P w (upd H a o) h' a o):cC P w (upd H a o) h':=λb u e=>by
 have hn:=x.fresh hp;by_cases hb:b=a
 . subst hb; rw[aG] at e; cases e; exact new
 . rw[am hb] at e;exact(x b u e).stay (λc v _ q=>k c v q) (λc q=>by rw[am (cS q hn)]; exact q) λc xs q=>by rw[am (cS q hn)]; exact q
end
abbrev Rd (H:Hp) (a:Mc) (u:HO):Prop:=H a=⇑u\/∃o,H a=⇑(.frz o u)
variable {P:Program} {w:World} {h:Heap}
def Rd.ok {a:Mc} {u:HO} (r:Rd H a u) (x:cC P w H h):cJ P w H h a u:=by
 rcases r with r|⟨o,r⟩
 . exact x a u r
 . let#[_,q]:=x a _ r;exact q
abbrev lV:JK HO->Prop
 | some (.lst _)=>True
 | some (.dK _)=>True
 | some (.dT _)=>True
 | some (.set _ _)=>True
 | some (.ins _ _ _)=>True
 | some (.ext _)=>True
 | _=>False
section
variable {P:Program} {w:World} {H:Hp} {h h':Heap} {x e:Mc} {o':HO}
def cC.write (ok:cC P w H h) (mu:lV (H x)) (he:e=x\/H e=⇑(.own x)) (k:∀b u,b≠e->h.get? b=⇑u->h'.get? b=⇑u) (heo:∃u,h'.get? e=⇑u)
   (new:cJ P w (upd H x o') h' x o'):cC P w (upd H x o') h':=λb u q=>by
 have nown:∀c y,H c=⇑(.own y)->c≠x:=λc y r z=>by subst z; rw[r] at mu; exact mu
 have ntup:∀c xs,H c=⇑(.tup xs)->c≠x:=λc xs r z=>by subst z; rw[r] at mu; exact mu
 by_cases hb:b=x
 . subst hb; rw[aG] at q; cases q; exact new
 . rw[am hb] at q;by_cases hbe:b=e
   . have q':H b=⇑(.own x):=by
       rcases he with z|z
       . exact absurd (hbe\z) hb
       . rw[hbe]; exact z
     rw[q] at q'; cases q';let#[v,hv]:=heo;show#[v,by rw[hbe]; exact hv]
   . refine(ok b u q).stay (λc v hc r=>k c v ?_ r) (λc r=>by rw[am (nown c b r)]; exact r) λc xs r=>by rw[am (ntup c xs r)]; exact r
     rcases hc with rfl|hc
     . exact hbe
     . rintro rfl;rcases he with z|z
       . exact nown c b hc z
       . rw[hc] at z; cases z; exact hb rfl
end
structure Un (fs ex:List Addr) (H H':Hp) (h h':Heap):Prop where
 keep:∀b o,h.get? b=⇑o->H b=none->b ∉ fs->b ∉ ex->h'.get? b=⇑o
 slot:∀b o,h.get? b=⇑o->H b=none->b∈fs->b ∉ ex->∃sl,h'.get? b=some { o with slots:=sl }
 free:∀b o,h.get? b=⇑o->H b=none->b ∉ ex->H' b=none
 there:∀b o,h.get? b=⇑o->b ∉ ex->∃o',h'.get? b=⇑o'
 tups:∀b xs,H b=⇑(.tup xs)->H' b=⇑(.tup xs)
 frzs:∀b o u,H b=⇑(.frz o u)->H' b=⇑(.frz o u)
 tbls:∀b ps,H b=⇑(.tbl ps)->∃more,H' b=⇑(.tbl (ps++more))
section
variable {fs fs' ex ex':List Mc} {H H1 H2:Hp} {h h1 h2 h':Heap} {a x e:Mc} {o:HO}
def Un.any (u:Un fs ex H H1 h h1) {ob:Obj} (q:h.get? b=⇑ob) (n:H b=none) (hx:b ∉ ex):∃sl,h1.get? b=some { ob with slots:=sl }:=by
 by_cases hb:b∈fs
 . exact u.slot b ob q n hb hx
 . show#[ob.slots,u.keep b ob q n hb hx]
def Un.kept (k:∀b u,h.get? b=⇑u->h'.get? b=⇑u):Un fs ex H H h h' :=
 #[λb ob q _ _ _=>k b ob q,λb ob q _ _ _=>#[ob.slots,k b ob q],λ_ _ _ n _=>n,λb ob q _=>#[ob,k b ob q],λ_ _ q=>q,λ_ _ _ q=>q,λ_ ps q=>#[0xA,by rw[q]; simp]]
def Un.refl:Un fs ex H H h h:=Un.kept λ_ _ q=>q
def Un.laid (k:∀b u,h.get? b=⇑u->h'.get? b=⇑u) (hp:h.objs.size<=a) (hn:H a=none):Un fs ex H (upd H a o) h h' where
 keep:=λb u q _ _ _=>k b u q
 slot:=λb u q _ _ _=>#[u.slots,k b u q]
 free:=λb u q n _=>by rw[am (Js (Ji (JX q) hp))]; exact n
 there:=λb u q _=>#[u,k b u q]
 tups:=λb xs q=>by rw[am (cS q hn)]; exact q
 frzs:=λb u xs q=>by rw[am (cS q hn)]; exact q
 tbls:=λb ps q=>#[0xA,by rw[am (cS q hn),q]; simp]
def Un.write (mu:lV (H x)) (he:e=x\/H e=⇑(.own x)) (k:∀b u,b≠e->h.get? b=⇑u->h'.get? b=⇑u) (heo:∃u,h'.get? e=⇑u):Un fs ex H (upd H x o) h h':=by
 have hx:∀b,H b=none->b≠x:=λb n z=>by subst z; rw[n] at mu; exact mu
 have hb:∀b,H b=none->b≠e:=λb n z=>by
   subst z;rcases he with r|r
   . exact hx b n r
   . rw[n] at r; cases r
 have hm:∀b u,H b=⇑u->¬ lV ⇑u->b≠x:=λb u q nm z=>by subst z; rw[q] at mu; exact nm mu
 show#[λb u q n _ _=>k b u (hb b n) q,λb u q n _ _=>#[u.slots,k b u (hb b n) q],λb u q n _=>by rw[am (hx b n)]; exact n,λb u q _=>?_,
   λb xs q=>by rw[am (hm b _ q λz=>z)]; exact q,λb u xs q=>by rw[am (hm b _ q λz=>z)]; exact q,λb ps q=>#[0xA,by rw[am (hm b _ q λz=>z),q]; simp]]
 by_cases hbe:b=e
 . subst hbe; exact heo
 . show#[u,k b u hbe q]
end
abbrev nz (h:Heap) (H:Hp):List Mc:=(List.range h.objs.size).filter λa=>(H a).isSome
abbrev gg (h:Heap) (H:Hp):Heap:=PySem.W.hideAll h (nz h H)
def Er (h:Heap) (H:Hp):(gg h H).objs.size=h.objs.size:=PySem.W.hideAll_size _ _
def Ia {o:Obj} (e:h.get? b=⇑o) (n:H b=none):(gg h H).get? b=⇑o :=
 PySem.W.hideAll_get _ e λhm=>by have q:(H b).isSome=true:=(List.mem_filter.mp hm).2;rw[n] at q; simp at q
def C3 {o:Obj} (e:(gg h H).get? b=⇑o):h.get? b=⇑o/\H b=none:=by
 have e':h.get? b=⇑o:=PySem.W.of_hideAll (nz h H) e;show#[e',?_];cases q:H b with
 | none=>rfl
 | some x =>
   have hm:b∈nz h H:=List.mem_filter.mpr #[MU.mpr (JX e'),by simp [q]];have z:(gg h H).get? b=none:=PySem.W.hideAll_none (nz h H) hm;rw[z] at e; cases e
structure Mod (K:W.Frag) (mg:Str->Option Value) (base:Heap):Prop where
 kin:K.In base
 glob:base.Ns mainGlobals mg
 blt:∃mb,base.Ns builtinsNs mb/\∀x:Str,x≠"__name__"->mb x=bootBuiltins x
 nolimit:base.NoLimit
structure Cx where
 prog:Program
 w:World
 K:W.Frag
 mg:Str->Option Value
 base:Heap
 A:Around
 N:List Str
 s₀:Shared
 H₀:Hp
 env:Env
 outer:List Env
 stack:List Env
 ex:List Addr
 fn:Str->Bool
 calm:Bool
 pn:List (Addr×Obj)
 xe:Value->Shared->Prop
abbrev g9 (l:List Env):List Mc:=l.filterMap (·.frame)
noncomputable abbrev Cx.fs (X:Cx):List Mc:=g9 X.outer
abbrev nK (sc:Scope) (x:Str):Prop:=sc.names.lookup x=some .local\/sc.names.lookup x=some .cell\/sc.names.lookup x=some .free
abbrev jO (sc:Scope) (x:Str):Prop:=sc.names.lookup x=some .local\/sc.names.lookup x=some .cell
abbrev ER (env:Env) (h:Heap) (m:Str->JK Ma) (x:Str) (u:Ma):Prop :=
 (env.kindOf x=some .local/\m x=⇑u)\/((env.kindOf x=some .cell\/env.kindOf x=some .free)/\∃c,env.cells.lookup x=⇑c/\h.IsCell c ⇑u)
structure Cx.Ok (X:Cx):Prop where
 mod:Mod X.K X.mg X.base
 kind:X.env.scope.kind=.function
 glob:X.env.globals=mainGlobals
 blt:X.env.builtins=builtinsNs
 above:X.s₀.heap.objs.size<=X.env.locals
 inj:∀x y c,X.env.cells.lookup x=⇑c->X.env.cells.lookup y=⇑c->x=y
 has:∀x,(X.env.kindOf x=some .cell\/X.env.kindOf x=some .free)->∃c,X.env.cells.lookup x=⇑c
 cab:∀x c,X.fn x=true->X.env.cells.lookup x=⇑c->X.s₀.heap.objs.size<=c
 hd:X.calm=true->X.A.handled=none
 frames:X.A.frames=⇑X.stack
 stk:X.stack=X.outer\/(X.stack=X.env::X.outer/\X.env.frame=⇑X.env.locals)
 exf:∀b∈X.ex,b≠X.env.locals/\∀x c,X.env.cells.lookup x=⇑c->c≠b
 bs:∀b o,X.base.get? b=⇑o->X.s₀.heap.get? b=⇑o/\X.H₀ b=none
 bsz:X.base.objs.size<=X.s₀.heap.objs.size
 noex:∀b o,X.base.get? b=⇑o->b ∉ X.ex
 exfs:∀b∈X.ex,b ∉ X.fs
 funs:X.s₀.heap.FunFrames X.base X.outer
 frf:∀b∈X.fs,X.H₀ b=none
structure Inv (X:Cx) (pins:List (Addr×Obj)) (σ:List (Option V)) (H:Hp) (s:Shared):Prop where
 ok:X.Ok
 os:s.os=X.s₀.os
 bare:AllBare s.gens
 base:Un X.fs X.ex X.H₀ H X.s₀.heap s.heap
 loc:∃m,s.heap.Ns X.env.locals m/\∀(i:Nat) (x:Str) (v:V),X.N[i]?=⇑x->σ[i]?=⇑⇑v->nK X.env.scope x->∃u,bC v u/\ER X.env s.heap m x u
 cell:∀x c,X.env.cells.lookup x=⇑c->∃v,s.heap.IsCell c v
 free:H X.env.locals=none
 freeC:∀x c,X.env.cells.lookup x=⇑c->H c=none
 pin:∀p∈X.pn++pins,s.heap.get? p.1=⇑p.2/\H p.1=none/\p.1≠X.env.locals/\p.1 ∉ X.fs/\∀v,p.2.data≠.cell v
 hok:cC X.prog X.w H s.heap
 len:σ.length=X.N.length
variable {x:Str} {M:Model} {A:Around} {E:Ma->Mb->Prop} {v:V}
section
variable {X:Cx} {pins:List (Mc×Obj)} {σ:List (JK V)} {H H':Hp} {s:Mb} {h':Heap}
def Cx.Ok.nofr (ok:X.Ok) {o:Obj} (e:X.base.get? b=⇑o):b ∉ X.fs:=λhb=>by have:=(ok.funs.mem hb).1;rw[e] at this; cases this
def Inv.bs (I:Inv X pins σ H s):∀b o,X.base.get? b=⇑o->s.heap.get? b=⇑o/\H b=none:=λb o e =>
 #[I.base.keep b o (I.ok.bs b o e).1 (I.ok.bs b o e).2 (I.ok.nofr e) (I.ok.noex b o e),I.base.free b o (I.ok.bs b o e).1 (I.ok.bs b o e).2 (I.ok.noex b o e)]
def Inv.bk (I:Inv X pins σ H s):∀b o,X.base.get? b=⇑o->s.heap.get? b=⇑o:=λb o e=>(I.bs b o e).1
def Inv.mod (I:Inv X pins σ H s):Mod X.K X.mg X.base:=I.ok.mod
def Inv.kIn (I:Inv X pins σ H s):X.K.In s.heap:=I.ok.mod.kin.keeps I.bk
def Inv.fr (I:Inv X pins σ H s):∃m,Fr X.base X.env.locals s.heap m :=
 let ⟨m,hn,_⟩:=I.loc
 #[m,hn,I.bk,Jj I.ok.bsz I.ok.above]
def Inv.lt (I:Inv X pins σ H s):X.env.locals<s.heap.objs.size:=by let#[_,hn,_]:=I.loc; exact hn.lt
def Inv.sz (I:Inv X pins σ H s):X.s₀.heap.objs.size<=s.heap.objs.size:=Jj I.ok.above (LC I.lt)
def Inv.nofs (I:Inv X pins σ H s) {a:Mc} (h:s.heap.objs.size<=a):a ∉ X.fs:=λhb=>by let#[_,o,ho,_]:=I.ok.funs.mem hb;exact absurd (Ji (JX ho) (Jj I.sz h)) (K2 _)
def Inv.cne (I:Inv X pins σ H s):∀x c,X.env.cells.lookup x=⇑c->c≠X.env.locals:=λx c e z=>by let#[v,o,ho,hd]:=I.cell x c e;obtain⟨m,⟨o',es,ep,ho',hd',_⟩,_⟩:=I.loc;rw[z,ho'] at ho; cases ho; rw[hd'] at hd; cases hd
def Inv.funs (I:Inv X pins σ H s):s.heap.FunFrames X.base X.outer:=by
 have all:∀(l:List Env),(∀b∈g9 l,b∈X.fs)->X.s₀.heap.FunFrames X.base l->s.heap.FunFrames X.base l:=by
   intro l
   induction l with
   | nil=>intro _ _; trivial
   | cons env r ih =>
     intro hs hl;obtain⟨hk,⟨L,o,hf,hn,ho,hd⟩,hr⟩:=hl;have hL:L∈X.fs:=hs L (by unfold g9; rw[Lp,hf]; exact JZ);let#[sl,e]:=I.base.slot L o ho (I.ok.frf L hL) hL λz=>I.ok.exfs L z hL;show#[hk,#[L,_,hf,hn,e,hd],ih (λb hb=>hs b (by unfold g9; rw[Lp,hf]; exact JY _ hb)) hr]
 exact all X.outer (λ_ hb=>hb) I.ok.funs
def Inv.stack (I:Inv X pins σ H s):s.heap.FunFrames X.base X.stack:=by
 rcases I.ok.stk with e|⟨e,hf⟩
 . rw[e]; exact I.funs
 . rw[e];let#[m,hn,_]:=I.loc;refine .cons (by rw[I.ok.kind]; decide) hf hn ?_ I.funs;exact Heap.get?_none_of_le (Jj I.ok.bsz I.ok.above)
def Inv.stkSub (I:Inv X pins σ H s):∀b∈g9 X.stack,b∈X.env.locals::X.fs:=λb hb=>by
 rcases I.ok.stk with e|⟨e,hf⟩
 . rw[e] at hb; exact JY _ hb
 . rw[e] at hb;unfold g9 at hb;rw[Lp,hf] at hb;exact hb
def Inv.stkFree (I:Inv X pins σ H s):∀b∈g9 X.stack,H b=none:=λb hb=>by
 rcases JT.mp (I.stkSub b hb) with e|hb
 . rw[e]; exact I.free
 . let#[_,o,ho,_]:=I.ok.funs.mem hb;exact I.base.free b o ho (I.ok.frf b hb) λz=>I.ok.exfs b z hb
def Inv.step {g':Array GenState} {t':Nat} {d':Drawn} {ch:List Mc} (I:Inv X pins σ H s)
   (hch:∀b∈ch,(b∈X.ex\/X.s₀.heap.objs.size<=b)/\b≠X.env.locals/\(∀x c,X.env.cells.lookup x=⇑c->c≠b)/\∀p∈X.pn++pins,p.1≠b)
   (keep:∀b o,b≠X.env.locals->b ∉ X.fs->b ∉ ch->s.heap.get? b=⇑o->H b=none->h'.get? b=⇑o)
   (slot:∀b o,b≠X.env.locals->b∈X.fs->b ∉ ch->s.heap.get? b=⇑o->H b=none->∃sl,h'.get? b=some { o with slots:=sl }) (free:∀b o,b ∉ ch->s.heap.get? b=⇑o->H b=none->H' b=none)
   (there:∀b o,b ∉ ch->s.heap.get? b=⇑o->∃o',h'.get? b=⇑o')
   (tups:∀b xs,H b=⇑(.tup xs)->H' b=⇑(.tup xs)) (frzs:∀b o u,H b=⇑(.frz o u)->H' b=⇑(.frz o u)) (tbls:∀b ps,H b=⇑(.tbl ps)->∃more,H' b=⇑(.tbl (ps++more)))
   (ns:∀m,s.heap.Ns X.env.locals m->h'.Ns X.env.locals m) (hok:cC X.prog X.w H' h') (hg:AllBare g') :
   Inv X pins σ H' { s with heap:=h',gens:=g',drawn:=d',toks:=t' }:=by
 have neL:∀b o,X.s₀.heap.get? b=⇑o->b≠X.env.locals:=λb o e=>Js (Ji (JX e) I.ok.above);have neC:∀b o,X.s₀.heap.get? b=⇑o->b ∉ X.ex->b ∉ ch:=λb o e hx hb=>by
   rcases (hch b hb).1 with z|z
   . exact hx z
   . exact absurd (Ji (JX e) z) (K2 _)
 have cellK:∀x c,X.env.cells.lookup x=⇑c->∀v,s.heap.IsCell c v->h'.IsCell c v:=λx c e v ⟨o,ho,hd⟩=>by
   have nch:c ∉ ch:=λz=>(hch c z).2.2.1 x c e rfl;by_cases hc:c∈X.fs
   . let#[sl,q]:=slot c o (I.cne x c e) hc nch ho (I.freeC x c e);show#[_,q,hd]
   . show#[o,keep c o (I.cne x c e) hc nch ho (I.freeC x c e),hd]
 show#[I.ok,I.os,hg,#[λb o e n hb hx=>?_,λb o e n hb hx=>?_,λb o e n hx=>?_,λb o e hx=>?_,λb xs e=>tups b xs (I.base.tups b xs e),λb o xs e=>frzs b o xs (I.base.frzs b o xs e),λb ps e=>?_],?_,λx c e=>?_,?_,λx c e=>?_,λp hp=>?_,hok,I.len]
 . exact keep b o (neL b o e) hb (neC b o e hx) (I.base.keep b o e n hb hx) (I.base.free b o e n hx)
 . let#[sl,e1]:=I.base.slot b o e n hb hx;let#[sl',e2]:=slot b _ (neL b o e) hb (neC b o e hx) e1 (I.base.free b o e n hx);show#[sl',e2]
 . let#[o',e1]:=I.base.there b o e hx;exact free b o' (neC b o e hx) e1 (I.base.free b o e n hx)
 . let#[o',e1]:=I.base.there b o e hx;exact there b o' (neC b o e hx) e1
 . let#[m1,e1]:=I.base.tbls b ps e;let#[m2,e2]:=tbls b _ e1;show#[m1++m2,by rw[e2,Array.append_assoc]]
 . let#[m,hn,hl]:=I.loc;show#[m,ns m hn,λi x v e1 e2 e3=>?_];let#[u,r,l]:=hl i x v e1 e2 e3;show#[u,r,?_];rcases l with l|⟨k,c,e,z⟩
   . exact .inl l
   . exact .inr #[k,c,e,cellK x c e _ z]
 . let#[v,z]:=I.cell x c e;show#[v,cellK x c e v z]
 . obtain⟨m,⟨o,_,_,ho,_⟩,_⟩:=I.loc;exact free _ o (λz=>(hch _ z).2.1 rfl) ho I.free
 . let#[v,o,ho,hd]:=I.cell x c e;exact free c o (λz=>(hch c z).2.2.1 x c e rfl) ho (I.freeC x c e)
 . let#[e,n,ne,nf,d]:=I.pin p hp;have nch:p.1 ∉ ch:=λz=>(hch p.1 z).2.2.2 p hp rfl;show#[keep p.1 p.2 ne nf nch e n,free p.1 p.2 nch e n,ne,nf,d]
def Inv.un {t':Nat} (I:Inv X pins σ H s) (u:Un X.fs [] H H' s.heap h') (hok:cC X.prog X.w H' h'):Inv X pins σ H' { s with heap:=h',toks:=t' }:=by
 obtain⟨m,⟨o,es,ep,ho,r⟩,_⟩:=id I.loc;let#[sl,hL]:=u.any ho I.free 0x6;exact I.step (g':=s.gens) (d':=s.drawn) (ch:=[]) (λ_ z=>nomatch z) (λb o _ hb _ e n=>u.keep b o e n hb 0x6) (λb o _ hb _ e n=>u.slot b o e n hb 0x6) (λb o _ e n=>u.free b o e n 0x6) (λb o _ e=>u.there b o e 0x6) u.tups u.frzs u.tbls (λm' hm=>by let#[o',es',ep',ho',r']:=hm;rw[ho] at ho'; cases ho';show#[_,es',ep',hL,r']) hok I.bare
def Inv.call {g':Array GenState} {t':Nat} {d':Drawn} {ch:List Mc} (I:Inv X pins σ H s) (u:Un (g9 X.stack) ch H H' s.heap h') (hok:cC X.prog X.w H' h') (hg:AllBare g')
   (hch:∀b∈ch,(b∈X.ex\/X.s₀.heap.objs.size<=b)/\b≠X.env.locals/\(∀x c,X.env.cells.lookup x=⇑c->c≠b)/\∀p∈X.pn++pins,p.1≠b) :
   Inv X pins σ H' { s with heap:=h',gens:=g',drawn:=d',toks:=t' }:=by
 obtain⟨m,⟨o,es,ep,ho,r⟩,_⟩:=id I.loc;let#[sl,hL]:=u.any ho I.free λz=>(hch _ z).2.1 rfl;exact I.step (ch:=ch) hch (λb o hL hb hc e n=>u.keep b o e n (λz=>(JT.mp (I.stkSub b z)).elim hL hb) hc) (λb o _ _ hc e n=>u.any e n hc) (λb o hc e n=>u.free b o e n hc) (λb o hc e=>u.there b o e hc) u.tups u.frzs u.tbls (λm' hm=>by let#[o',es',ep',ho',r']:=hm;rw[ho] at ho'; cases ho';show#[_,es',ep',hL,r']) hok hg
def Inv.turned {t':Nat} {it:Mc} (I:Inv X pins σ H s) (k:∀b o,b≠it->s.heap.get? b=⇑o->h'.get? b=⇑o) (hn:H it=none) (hL:it≠X.env.locals)
   (h1:it∈X.ex\/X.s₀.heap.objs.size<=it) (h2:∀x c,X.env.cells.lookup x=⇑c->c≠it) (h3:∀p∈X.pn++pins,p.1≠it):Inv X pins σ H { s with heap:=h',toks:=t' }:=by
 have nit:∀b u,H b=⇑u->b≠it:=λb u e z=>by rw[z,hn] at e; cases e
 refine I.step (g':=s.gens) (d':=s.drawn) (ch:=[it]) (λb hb=>?_) (λb o _ _ hc e _=>k b o (λz=>hc (by simp [z])) e) (λb o _ _ hc e _=>#[o.slots,k b o (λz=>hc (by simp [z])) e]) (λ_ _ _ _ n=>n)
   (λb o hc e=>#[o,k b o (λz=>hc (by simp [z])) e]) (λ_ _ e=>e) (λ_ _ _ e=>e) (λb ps e=>#[0xA,by rw[e]; simp]) (λm hm=>?_) (λb u e=>?_) I.bare
 . have e:b=it:=↑hb
   subst e;show#[h1,hL,h2,h3]
 . let#[o,es,ep,ho,r]:=hm;show#[o,es,ep,k _ o (Ne.symm hL) ho,r]
 . refine(I.hok b u e).stay (λc v hc q=>k c v ?_ q) (λ_ q=>q) λ_ _ q=>q;rcases hc with z|z
   . rw[z]; exact nit b u e
   . exact nit c _ z
def Inv.tok (I:Inv X pins σ H s) (t:Nat):Inv X pins σ H { s with toks:=t }:=I.un (h':=s.heap) (t':=t) Un.refl I.hok
def Inv.kept {t':Nat} (I:Inv X pins σ H s) (k:∀b u,s.heap.get? b=⇑u->h'.get? b=⇑u):Inv X pins σ H { s with heap:=h',toks:=t' }:=I.un (Un.kept k) (I.hok.kept k)
def Inv.laid {a:Mc} {o:HO} {t':Nat} (I:Inv X pins σ H s) (k:∀b u,s.heap.get? b=⇑u->h'.get? b=⇑u) (hp:s.heap.objs.size<=a) (new:cJ X.prog X.w (upd H a o) h' a o) :
   Inv X pins σ (upd H a o) { s with heap:=h',toks:=t' }:=I.un (Un.laid k hp (I.hok.fresh hp)) (I.hok.laid k hp new)
def Inv.write {x e:Mc} {o:HO} {t':Nat} (I:Inv X pins σ H s) (mu:lV (H x)) (he:e=x\/H e=⇑(.own x)) (k:∀b u,b≠e->s.heap.get? b=⇑u->h'.get? b=⇑u) (heo:∃u,h'.get? e=⇑u)
   (new:cJ X.prog X.w (upd H x o) h' x o):Inv X pins σ (upd H x o) { s with heap:=h',toks:=t' }:=I.un (Un.write mu he k heo) (I.hok.write mu he k heo new)
def Inv.weak {σ':List (JK V)} (I:Inv X pins σ H s) (hl:σ'.length=σ.length) (w:∀(i:Nat) v,σ'[i]?=⇑⇑v->σ[i]?=⇑⇑v):Inv X pins σ' H s :=
 #[I.ok,I.os,I.bare,I.base,by let#[m,hn,hl']:=I.loc; show#[m,hn,λi x v e1 e2 e3=>hl' i x v e1 (w i v e2) e3],I.cell,I.free,I.freeC,I.pin,I.hok,hl\I.len]
def Inv.pins_of {pins':List (Mc×Obj)} (I:Inv X pins σ H s) (h:∀p∈pins',s.heap.get? p.1=⇑p.2/\H p.1=none/\p.1≠X.env.locals/\p.1 ∉ X.fs/\∀v,p.2.data≠.cell v):Inv X pins' σ H s :=
 #[I.ok,I.os,I.bare,I.base,I.loc,I.cell,I.free,I.freeC,λp hp=>(JV.mp hp).elim (λz=>I.pin p (KB _ z)) (h p),I.hok,I.len]
def wC {N:List Str} (hN:N.Nodup) {i j:Nat} (a:N[i]?=⇑x) (b:N[j]?=⇑x):i=j:=by let#[h1,e1]:=JH.mp a;let#[h2,e2]:=JH.mp b;exact(List.getElem_inj hN).mp (e1\e2.symm)
def x3 {i:Nat} {Q:Unit->Mb->Prop} (I:Inv X pins σ H s) (hN:X.N.Nodup) (hi:X.N[i]?=⇑x) (hx:jO X.env.scope x) (r:bC v u)
   (h:∀s',Inv X pins (σ.set i ⇑v) H s'->(∃a,Heap.SameBut a s.heap s'.heap/\(a=X.env.locals\/X.env.cells.lookup x=⇑a))->Q () s') (hf:X.fn x=true\/X.env.scope.names.lookup x=some .local:=by first|exact .inl rfl|exact .inr rfl|assumption):wpAny M A (storeName X.env x u) Q E s:=by
 let#[m,hn,hl]:=id I.loc;have hcls:(X.env.scope.kind==.class || (X.env.scope.kind==.module&&X.env.locals != X.env.globals))=false:=by rw[I.ok.kind]; rfl
 have hiσ:i<σ.length:=by rw[I.len]; exact(JH.mp hi).1
 have cne:=I.cne;have tracked:∀{a:Mc} {h':Heap},(∃o,s.heap.get? a=⇑o/\H a=none)->Heap.SameBut a s.heap h'->cC X.prog X.w H h':=λ{a h'} ha hs b ob e=>by
   let#[_,_,hfree]:=ha;refine(I.hok b ob e).stay (λc w' hc q=>(hs.2 c ?_)\q) (λ_ q=>q) λ_ _ q=>q;rintro rfl;rcases hc with rfl|hc
   . rw[hfree] at e; cases e
   . rw[hfree] at hc; cases hc
 rcases hx with hk|hk
 . refine wpAny_storeName_local hk hn (λh' hn' hs=>?_) hcls;let#[oL,_,_,hoL,_]:=id hn;refine h _ #[I.ok,I.os,I.bare,#[λb o e n hb hx=>?_,λb o e n hb hx=>?_,I.base.free,λb o e hx=>?_,I.base.tups,I.base.frzs,I.base.tbls],#[_,hn',λj y v' e1 e2 e3=>?_],λy c e=>?_,I.free,I.freeC,λp hp=>?_,tracked #[oL,hoL,I.free] hs,by simpa using I.len] #[_,hs,.inl rfl]
   . exact(hs.2 b (Js (Ji (JX e) I.ok.above))).trans (I.base.keep b o e n hb hx)
   . let#[sl,e1]:=I.base.slot b o e n hb hx;show#[sl,(hs.2 b (Js (Ji (JX e) I.ok.above)))\e1]
   . let#[o',e1]:=I.base.there b o e hx;show#[o',(hs.2 b (Js (Ji (JX e) I.ok.above)))\e1]
   . by_cases hj:j=i
     . subst hj;rw[hi] at e1; cases e1;rw[KH hiσ] at e2;cases e2;show#[u,r,.inl #[hk,by simp]]
     . rw[KS (Ne.symm hj)] at e2;let#[u',r',q]:=hl j y v' e1 e2 e3;show#[u',r',?_];rcases q with⟨k,e⟩|⟨k,c,e,z⟩
       . refine .inl #[k,?_];have:y≠x:=λe=>hj (wC hN e1 (e ▸ hi));simp [this,e]
       . exact .inr #[k,c,e,z.sameBut hs (cne y c e)]
   . let#[w',z]:=I.cell y c e;show#[w',z.sameBut hs (cne y c e)]
   . let#[e,n,ne,nf,d]:=I.pin p hp;show#[(hs.2 p.1 ne)\e,n,ne,nf,d]
 . have hfn:X.fn x=true:=by
     rcases hf with z|z
     . exact z
     . rw[z] at hk; cases hk
   let#[c,hc]:=I.ok.has x (.inl hk);let#[w',z]:=I.cell x c hc;refine wpAny_storeName_cell I.ok.kind hk hc z (λh' hc' hs=>?_);let#[oc,hoc,hocd]:=id z;refine h { s with heap:=h' } #[I.ok,I.os,I.bare,#[λb o e n hb hx=>?_,λb o e n hb hx=>?_,I.base.free,λb o e hx=>?_,I.base.tups,I.base.frzs,I.base.tbls],#[m,hn.sameBut hs (Ne.symm (cne x c hc)),λj y v' e1 e2 e3=>?_],λy c' e=>?_,I.free,I.freeC,λp hp=>?_,tracked #[oc,hoc,I.freeC x c hc] hs,by simpa using I.len] #[c,hs,.inr hc]
   . exact(hs.2 b (Js (Ji (JX e) (I.ok.cab x c hfn hc)))).trans (I.base.keep b o e n hb hx)
   . let#[sl,e1]:=I.base.slot b o e n hb hx;show#[sl,(hs.2 b (Js (Ji (JX e) (I.ok.cab x c hfn hc))))\e1]
   . let#[o',e1]:=I.base.there b o e hx;show#[o',(hs.2 b (Js (Ji (JX e) (I.ok.cab x c hfn hc))))\e1]
   . by_cases hj:j=i
     . subst hj;rw[hi] at e1; cases e1;rw[KH hiσ] at e2;cases e2;show#[u,r,.inr #[.inl hk,c,hc,hc']]
     . rw[KS (Ne.symm hj)] at e2;let#[u',r',q]:=hl j y v' e1 e2 e3;show#[u',r',?_];rcases q with q|⟨k,c',e,z'⟩
       . exact .inl q
       . refine .inr #[k,c',e,z'.sameBut hs ?_];rintro rfl;exact hj (wC hN e1 (I.ok.inj _ _ _ e hc ▸ hi))
   . by_cases hcc:c'=c
     . subst hcc; show#[_,hc']
     . let#[w2,z2]:=I.cell y c' e;show#[w2,z2.sameBut hs hcc]
   . let#[e,n,ne,nf,d]:=I.pin p hp;show#[(hs.2 p.1 ?_)\e,n,ne,nf,d];intro q;rw[q,hoc] at e;have q':oc=p.2:=Option.some.inj e;exact d w' (by rw[<- q']; exact hocd)
def xN {i:Nat} {Q:Unit->Mb->Prop} (I:Inv X pins σ H s) (hN:X.N.Nodup) (hi:X.N[i]?=⇑x) (hx:jO X.env.scope x) (r:bC v u)
   (h:∀s',Inv X pins (σ.set i ⇑v) H s'->Q () s') (hf:X.fn x=true\/X.env.scope.names.lookup x=some .local:=by first|exact .inl rfl|exact .inr rfl|assumption):wpAny M A (storeName X.env x u) Q E s :=
 x3 I hN hi hx r (λs' I' _=>h s' I') hf
def Inv.call' {s':Mb} {ch:List Mc} (I:Inv X pins σ H s) (ho:s'.os=s.os) (u:Un (g9 X.stack) ch H H' s.heap s'.heap) (hok:cC X.prog X.w H' s'.heap) (hg:AllBare s'.gens)
   (hch:∀b∈ch,(b∈X.ex\/X.s₀.heap.objs.size<=b)/\b≠X.env.locals/\(∀x c,X.env.cells.lookup x=⇑c->c≠b)/\∀p∈X.pn++pins,p.1≠b):Inv X pins σ H' s':=by
 let#[h',g',d',t',o']:=s';have e:o'=s.os:=ho;subst e;exact I.call (g':=g') (t':=t') (d':=d') u hok hg hch
end
noncomputable abbrev XK:=Ma->JK Mc->Hp->Prop
noncomputable abbrev St:=List (JK V)
noncomputable abbrev VK:=V->Hp->Prop
noncomputable abbrev TE:=St->Hp->VK->Prop
noncomputable abbrev TT:=St->Hp->(Bool->Hp->Prop)->Prop
noncomputable abbrev TA:=St->Hp->(List V->Hp->Prop)->Prop
structure cU where
 nx:St->Hp->Prop
 rt:VK
 bk:St->Hp->Prop:=λ_ _=>False
 ct:St->Hp->Prop:=λ_ _=>False
noncomputable abbrev TS:=cU->St->Hp->Prop
abbrev EP (X:Cx) (pins:List (Mc×Obj)) (σ:St) (Q:VK) (u:Ma) (s':Mb):Prop:=∃v H',Inv X pins σ H' s'/\bC v u/\Q v H'
abbrev TP (X:Cx) (pins:List (Mc×Obj)) (σ:St) (Q:Bool->Hp->Prop) (b:Bool) (s':Mb):Prop:=∃H',Inv X pins σ H' s'/\Q b H'
abbrev AP (X:Cx) (pins:List (Mc×Obj)) (σ:St) (Q:List V->Hp->Prop) (us:List Ma) (s':Mb):Prop:=∃vs H',Inv X pins σ H' s'/\ao vs us/\Q vs H'
abbrev SP (X:Cx) (pins:List (Mc×Obj)) (D:cU) (f:Flow) (s':Mb):Prop :=
 match f with
 | .next=>∃σ' H',Inv X pins σ' H' s'/\D.nx σ' H'
 | .brk=>∃σ' H',Inv X pins σ' H' s'/\D.bk σ' H'
 | .cont=>∃σ' H',Inv X pins σ' H' s'/\D.ct σ' H'
 | .ret u=>∃v σ' H',Inv X pins σ' H' s'/\bC v u/\D.rt v H'
abbrev PE (X:Cx) (e:Expr) (t:TE):Prop :=
 ∀(pins:List (Mc×Obj)) (s:Mb) (σ:St) (H:Hp) (Q:VK),Inv X pins σ H s->t σ H Q->wpAny 0x5 X.A (eval e X.env) (EP X pins σ Q) X.xe s
abbrev PT (X:Cx) (e:Expr) (t:TT):Prop :=
 ∀(pins:List (Mc×Obj)) (s:Mb) (σ:St) (H:Hp) (Q:Bool->Hp->Prop),Inv X pins σ H s->t σ H Q->wpAny 0x5 X.A (isTrue e X.env (eval e X.env)) (TP X pins σ Q) X.xe s
abbrev PW (X:Cx) (e:Expr) (t:TT):Prop :=
 ∀(whole:Sem Ma) (pins:List (Mc×Obj)) (s:Mb) (σ:St) (H:Hp) (Q:Bool->Hp->Prop),Inv X pins σ H s->t σ H Q->wpAny 0x5 X.A (isTrue e X.env whole) (TP X pins σ Q) X.xe s
def PW.pt {X:Cx} {e:Expr} {t:TT} (h:PW X e t):PT X e t:=h _
abbrev PA (X:Cx) (es:List Expr) (t:TA):Prop :=
 ∀(pos:Pos) (pins:List (Mc×Obj)) (s:Mb) (σ:St) (H:Hp) (Q:List V->Hp->Prop),Inv X pins σ H s->t σ H Q->wpAny 0x5 X.A (spliced (backTo pos (starEach es X.env))) (AP X pins σ Q) X.xe s
abbrev PS (X:Cx) (st:Stmt) (t:TS):Prop :=
 ∀(pins:List (Mc×Obj)) (s:Mb) (σ:St) (H:Hp) (D:cU),Inv X pins σ H s->t D σ H->wpAny 0x5 X.A (exec st X.env) (SP X pins D) X.xe s
abbrev aY (X:Cx) (st:List Stmt) (t:TS):Prop :=
 ∀(pins:List (Mc×Obj)) (s:Mb) (σ:St) (H:Hp) (D:cU),Inv X pins σ H s->t D σ H->wpAny 0x5 X.A (execs st X.env) (SP X pins D) X.xe s
variable {us:List Ma}
section
variable {X:Cx} {pins:List (Mc×Obj)} {σ:St} {s:Mb} {P:Prop}
def EP.e {Q:VK} (h:EP X pins σ Q u s) (f:∀v H,Inv X pins σ H s->bC v u->Q v H->P):P:=by let#[v,H,a,b,c]:=h;exact f v H a b c
def TP.e {Q:Bool->Hp->Prop} {b:Bool} (h:TP X pins σ Q b s) (f:∀H,Inv X pins σ H s->Q b H->P):P:=by let#[H,a,c]:=h;exact f H a c
def AP.e {Q:List V->Hp->Prop} (h:AP X pins σ Q us s) (f:∀vs H,Inv X pins σ H s->ao vs us->Q vs H->P):P:=by let#[v,H,a,b,c]:=h;exact f v H a b c
end
variable {s:Mb}
def al {α:Type} {t:Sem α} {Q Q':α->Mb->Prop} (h:wpAny M A t Q E s) (hQ:∀a s,Q a s->Q' a s):wpAny M A t Q' E s:=LI h hQ λ_ _ x=>x
variable {pos:Pos} {pins:List (Mc×Obj)} {σ:St} {op:CmpOp}
section
variable {X:Cx}
abbrev x9 (i:Nat):TE:=λσ H Q=>∃v,σ[i]?=⇑⇑v/\Q v H
abbrev tC (v:V):TE:=λ_ H Q=>Q v H
def BP {i:Nat} (hN:X.N[i]?=⇑x) (hv:nK X.env.scope x) (hd:(x==("__debug__":Str))=false:=by decide) (hcd:(x==("__classdict__":Str))=false:=by decide):PE X (.Name x pos) (x9 i):=by
 intro pins s σ H Q I h;let#[v,e,h]:=h;let#[m,hn,hl]:=I.loc;let#[u,r,l]:=hl i x v hN e hv;have fin:EP X pins σ Q u s:=#[v,H,I,r,h]
 rcases l with⟨hk,hm⟩|⟨hk,c,hc,hcell⟩
 . exact wpAny_Name (wpAny_loadName_local I.ok.kind hk hn hm fin) hd
 . rcases hk with hk|hk
   . exact wpAny_Name (wpAny_loadName_cell I.ok.kind hk hc hcell fin) hd
   . exact wpAny_Name (wpAny_loadName_free I.ok.kind hk hc hcell fin hcd) hd
def aF {i j pos}:PE X (.Constant (.int i) j pos) (tC (.int i)):=λ_ _ _ H _ I h=>wpAny_Constant_int #[.int i,H,I.tok _,#[5],h]
def dr {b j pos}:PE X (.Constant (.bool b) j pos) (tC (.bl b)):=λ_ _ _ H _ I h=>Constant_bool #[.bl b,H,I,rfl,h]
def fi {j pos}:PE X (.Constant .none j pos) (tC .non):=λ_ _ _ H _ I h=>Constant_none #[.non,H,I,rfl,h]
def aU {x j pos}:PE X (.Constant (.str x) j pos) (tC (.str x)):=λ_ _ _ H _ I h=>Calls.Constant_str #[.str x,H,I.tok _,#[5],h]
abbrev Gl (X:Cx) (x:Str):Prop:=X.env.kindOf x=some .globalImplicit
def qG {Q:Ma->Mb->Prop} (I:Inv X pins σ H s) (hg:Gl X x) (hm:X.mg x=⇑u) (h:Q u s)
   (hd:(x==("__debug__":Str))=false:=by decide):wpAny 0x5 X.A (eval (.Name x pos) X.env) Q E s :=
 Calls.Name_function_global I.ok.kind hg (Calls.loadGlobal_global (by rw[I.ok.glob]; exact I.mod.glob.keeps I.bk) hm h) hd
def fY {Q:Ma->Mb->Prop} (I:Inv X pins σ H s) (hg:Gl X x) (hm:X.mg x=none) (hv:bootBuiltins x=⇑u) (h:Q u s)
   (hn:x≠"__name__":=by decide) (hd:(x==("__debug__":Str))=false:=by decide):wpAny 0x5 X.A (eval (.Name x pos) X.env) Q E s:=by
 let#[mb,h1,h2]:=I.mod.blt;exact Calls.Name_function_global I.ok.kind hg (Calls.loadGlobal_builtin (by rw[I.ok.glob]; exact I.mod.glob.keeps I.bk) hm (by rw[I.ok.blt]; exact h1.keeps I.bk) ((h2 x hn)\hv) h) hd
def wq (hg:Gl X x) (hm:X.mg x=⇑u) (r:bC v u) (hd:(x==("__debug__":Str))=false:=by decide):PE X (.Name x pos) (tC v) :=
 λ_ _ _ H _ I h=>qG I hg hm #[v,H,I,r,h] hd
def nr (hg:Gl X x) (hm:X.mg x=none) (hv:bootBuiltins x=⇑u) (r:bC v u) (hn:x≠"__name__":=by decide) (hd:(x==("__debug__":Str))=false:=by decide):PE X (.Name x pos) (tC v) :=
 λ_ _ _ H _ I h=>fY I hg hm hv #[v,H,I,r,h] hn hd
variable {a b:Expr} {ta tb:TE} {pos:Pos}
abbrev PC (X:Cx) (op:CmpOp) (a b:Expr) (t:TE):Prop :=
 ∀(pins:List (Mc×Obj)) (s:Mb) (σ:St) (H:Hp) (Q:VK),Inv X pins σ H s->t σ H Q ->
   wpAny 0x5 X.A (eval a X.env) (λv s₁=>wpAny 0x5 X.A (eval b X.env) (λu s₂=>wpAny 0x5 X.A (compareOp op v u) (EP X pins σ Q) X.xe s₂) X.xe s₁) X.xe s
def wQ (b:Expr) (h:op≠.In) (h2:op≠.NotIn):behindInMarks op b=false:=by
 have e1:(op==CmpOp.In)=false:=by cases op <;> first|rfl|exact absurd rfl h
 have e2:(op==CmpOp.NotIn)=false:=by cases op <;> first|rfl|exact absurd rfl h2
 cases b <;> simp [behindInMarks,e1,e2]
abbrev HC (ta:TE):TE:=λσ H Q=>ta σ H λx H1=>Q (.bl (decide (x=.non))) H1
abbrev Fy (ta:TE):TE:=λσ H Q=>ta σ H λx H1=>Q (.bl (!decide (x=.non))) H1
def bC.none_iff {x:V} {v:Ma} (r:bC x v):(v==Value.none)=decide (x=.non):=by
 cases x with
 | non=>cases r; rfl
 | bl _=>cases r; rfl
 | int _=>let#[t,rfl]:=r; rfl
 | str _=>let#[t,rfl]:=r; rfl
 | byt _=>let#[t,rfl]:=r; rfl
 | flt _=>let#[t,rfl]:=r; rfl
 | ref _=>cases r; rfl
 | ty _=>cases r; rfl
def nM {j pos'} (ha:PE X a ta):PC X .Is a (.Constant .none j pos') (HC ta):=by intro pins s σ H Q I h;refine al (ha pins s σ H _ I h) λv s1 z4_=>?_;let#[x,H1,I1,r1,q1]:=z4_;exact Constant_none (is_none_gen #[.bl _,H1,I1,by rw[r1.none_iff]; rfl,q1])
def iV {j pos'} (ha:PE X a ta):PC X .IsNot a (.Constant .none j pos') (Fy ta):=by intro pins s σ H Q I h;refine al (ha pins s σ H _ I h) λv s1 z5_=>?_;let#[x,H1,I1,r1,q1]:=z5_;exact Constant_none (isnot_none_gen #[.bl _,H1,I1,by rw[r1.none_iff]; rfl,q1])
abbrev tB (t:TE):TT:=λσ H Q=>t σ H λx H1=>∃c,x=.bl c/\Q c H1
def Ft {t:TE} (h:PC X op a b t) (h1:behindInMarks op b=false:=by first|exact wQ _ #[] #[]|rfl):PE X (.Compare a [op] [b] pos) t:=λpins s σ H Q I hw=>wpAny_Compare1 (h pins s σ H Q I hw) h1
def fW {t:TE} (h:PC X op a b t) (h1:behindInMarks op b=false:=by first|exact wQ _ #[] #[]|rfl):PT X (.Compare a [op] [b] pos) (tB t):=by intro pins s σ H Q I hw;refine LY (al (h pins s σ H _ I hw) λv s1 h1=>al h1 λu s2 h2=>al h2 λc s3 z6_=>?_) h1;let#[x,H1,I1,r1,q1]:=z6_;let#[d,rfl,q]:=q1;cases r1;exact KY #[H1,I1,q]
variable {tA tB':TT} {rest:List Expr}
abbrev Ew (t u:TT):TT:=λσ H Q=>t σ H λc H1=>if c=true then u σ H1 Q else Q false H1
abbrev tOr (t u:TT):TT:=λσ H Q=>t σ H λc H1=>if c=true then Q true H1 else u σ H1 Q
abbrev HZ (t:TT):TT:=λσ H Q=>t σ H λc H1=>Q (!c) H1
def dY (ha:PT X a tA):PW X (.BoolOp .And [a] pos) tA:=by
 intro wh pins s σ H Q I h;refine isTrue_and (al (ha pins s σ H Q I h) λc s1 e=>?_);cases c with
 | true=>exact isTrue_and_nil e
 | false=>exact e
def gC (ha:PT X a tA):PW X (.BoolOp .Or [a] pos) tA:=by
 intro wh pins s σ H Q I h;refine isTrue_or (al (ha pins s σ H Q I h) λc s1 e=>?_);cases c with
 | false=>exact isTrue_or_nil e
 | true=>exact e
def dJ (ha:PT X a tA) (hb:PW X (.BoolOp .And (b::rest) pos) tB'):PW X (.BoolOp .And (a::b::rest) pos) (Ew tA tB'):=by
 intro wh pins s σ H Q I h;refine isTrue_and (al (ha pins s σ H _ I h) λc s1 z8_=>?_);let#[H1,I1,q1]:=z8_;cases c with
 | true=>exact hb wh pins s1 σ H1 Q I1 q1
 | false=>show#[H1,I1,q1]
def fR (ha:PT X a tA) (hb:PW X (.BoolOp .Or (b::rest) pos) tB'):PW X (.BoolOp .Or (a::b::rest) pos) (tOr tA tB'):=by
 intro wh pins s σ H Q I h;refine isTrue_or (al (ha pins s σ H _ I h) λc s1 z9_=>?_);let#[H1,I1,q1]:=z9_;cases c with
 | true=>show#[H1,I1,q1]
 | false=>exact hb wh pins s1 σ H1 Q I1 q1
def lT (ha:PT X a tA):PT X (.UnaryOp .Not a pos) (HZ tA):=by intro pins s σ H Q I h;exact isTrue_not (ha pins s σ H (λc H1=>Q (!c) H1) I h)
abbrev Io (ta tb:TE):TE:=λσ H Q=>ta σ H λx H1=>∃c,x=.bl c/\if c=true then tb σ H1 Q else Q (.bl false) H1
abbrev IA (ta:TE):TE:=λσ H Q=>ta σ H λx H1=>∃c,x=.bl c/\Q (.bl (!c)) H1
def jv {op} {t:TE} (h:PE X a t):PE X (.BoolOp op [a] pos) t:=λpins s σ H Q I hw=>BoolOp_one (h pins s σ H Q I hw)
def ig (ha:PE X a ta) (hb:PE X (.BoolOp .And (b::rest) pos) tb):PE X (.BoolOp .And (a::b::rest) pos) (Io ta tb):=by
 intro pins s σ H Q I h;refine BoolOp_and (al (ha pins s σ H _ I h) λv s1 z10_=>?_);let#[x,H1,I1,r1,q1]:=z10_;let#[c,rfl,q1]:=q1;cases r1;refine KY ?_;cases c with
 | true=>exact hb pins s1 σ H1 Q I1 q1
 | false=>show#[.bl false,H1,I1,rfl,q1]
def Dk (ha:PE X a ta):PE X (.UnaryOp .Not a pos) (IA ta):=by intro pins s σ H Q I h;refine UnaryOp_ (al (ha pins s σ H _ I h) λv s1 z12_=>?_);let#[x,H1,I1,r1,q1]:=z12_;let#[c,rfl,q1]:=q1;cases r1;exact not_of (KY #[.bl (!c),H1,I1,rfl,q1])
abbrev tIf (t:TT) (ta tb:TE):TE:=λσ H Q=>t σ H λc H1=>if c=true then ta σ H1 Q else tb σ H1 Q
def jR {c:Expr} (hc:PT X c tA) (ha:PE X a ta) (hb:PE X b tb):PE X (.IfExp c a b pos) (tIf tA ta tb):=by
 intro pins s σ H Q I h;refine wpAny_IfExp (al (hc pins s σ H _ I h) λd s1 z13_=>?_);let#[H1,I1,q1]:=z13_;cases d with
 | true=>exact ha pins s1 σ H1 Q I1 q1
 | false=>exact hb pins s1 σ H1 Q I1 q1
end
abbrev aE (K:Md) (H:Hp) (a:Mc) (xs:List V):Prop :=
 Rd H a (.lst xs) \/
   ∃(o:Obj) (its:Array Ma) (n:Nat),K.lookup a=⇑o/\o.cls=.type "list"/\o.dict=none/\o.data=.seq its n/\its.size<=sizeLine/\ao xs its.toList
abbrev aD (K:Md) (H:Hp) (a:Mc) (xs:List V):Prop :=
 Rd H a (.tup xs) \/
   ∃(o:Obj) (its:Array Ma) (n:Nat),K.lookup a=⇑o/\o.cls=.type "tuple"/\o.data=.seq its n/\its.size<=sizeLine/\ao xs its.toList
abbrev EG:Ma->JK V
 | .none=>some .non
 | .bool b=>⇑(.bl b)
 | .int i _=>⇑(.int i)
 | .str x _=>⇑(.str x)
 | .bytes b _=>⇑(.byt b)
 | .float b _=>⇑(.flt b)
 | .ref a=>⇑↥a
 | .type n=>⇑(.ty n)
 | _=>none
def bC.abs {x:V} (r:bC x u):EG u=⇑x:=by
 cases x with
 | non=>cases r; rfl
 | bl _=>cases r; rfl
 | int _=>let#[t,rfl]:=r; rfl
 | str _=>let#[t,rfl]:=r; rfl
 | byt _=>let#[t,rfl]:=r; rfl
 | flt _=>let#[t,rfl]:=r; rfl
 | ref _=>cases r; rfl
 | ty _=>cases r; rfl
def bC.inj {x y:V} {u:Ma} (r:bC x u) (q:bC y u):x=y:=Option.some.inj (r.abs.symm\q.abs)
def ao.inj:∀{xs ys:List V} {us:List Ma},ao xs us->ao ys us->xs=ys:=by
 intro xs ys us h h'
 induction h generalizing ys with
 | nil=>cases h'; rfl
 | cons r t ih =>
   cases h' with
   | cons r' t'=>rw[r.inj r',ih t']
variable {K:Md}
section
variable {X:Cx} {pins:List (Mc×Obj)} {σ:St} {H:Hp} {s:Mb} {a:Mc} {xs ys:List V}
def aE.of (h:H a=⇑(.lst xs)):aE K H a xs:=.inl (.inl h)
def aD.of (h:H a=⇑(.tup xs)):aD K H a xs:=.inl (.inl h)
def Inv.list (I:Inv X pins σ H s) (h:aE X.K H a xs):∃its:List Ma,ao xs its/\PlainL s.heap a its.toArray/\xs.length<=sizeLine:=by
 rcases h with h|⟨o,its,n,hk,hc,hd,hs,hz,r⟩
 . let#[z,its,n,r,e]:=h.ok I.hok;show#[its,r,#[_,n,e,15],z]
 . show#[its.toList,r,#[o,n,I.kIn a o hk,hc,hd,by simpa using hs],?_];have e:=r.length;simp only[Lq] at e
   lia
def Inv.tuple (I:Inv X pins σ H s) (h:aD X.K H a xs):∃its:List Ma,ao xs its/\IsTup s.heap a its.toArray/\xs.length<=sizeLine:=by
 rcases h with h|⟨o,its,n,hk,hc,hs,hz,r⟩
 . let#[z,its,r,p]:=h.ok I.hok;show#[its,r,p,z]
 . show#[its.toList,r,#[o,I.kIn a o hk,hc,n,by simpa using hs],?_];have e:=r.length;simp only[Lq] at e
   lia
def Inv.list_inj (I:Inv X pins σ H s) (h:aE X.K H a xs) (h':aE X.K H a ys):xs=ys:=by
 obtain⟨its,r,⟨o,n,e,_,_,d⟩,_⟩:=I.list h;obtain⟨its',r',⟨o',n',e',_,_,d'⟩,_⟩:=I.list h';rw[e] at e'; cases e';rw[d] at d';injection d' with d1 _
 have:its=its':=by simpa using JW Array.toList d1
 subst this;exact r.inj r'
def Inv.tuple_inj (I:Inv X pins σ H s) (h:aD X.K H a xs) (h':aD X.K H a ys):xs=ys:=by
 obtain⟨its,r,⟨o,e,_,n,d⟩,_⟩:=I.tuple h;obtain⟨its',r',⟨o',e',_,n',d'⟩,_⟩:=I.tuple h';rw[e] at e'; cases e';rw[d] at d';injection d' with d1 _
 have:its=its':=by simpa using JW Array.toList d1
 subst this;exact r.inj r'
end
noncomputable abbrev Cx.wish (X:Cx) (E:Ma->Mb->Prop):Cx:={ X with xe:=E }
noncomputable abbrev Cx.nox (X:Cx):Cx:=X.wish λ_ _=>False
variable {X:Cx}
def Cx.Ok.wish (ok:X.Ok) (E:Ma->Mb->Prop):(X.wish E).Ok :=
 #[ok.mod,ok.kind,ok.glob,ok.blt,ok.above,ok.inj,ok.has,ok.cab,ok.hd,ok.frames,ok.stk,ok.exf,ok.bs,ok.bsz,ok.noex,ok.exfs,ok.funs,ok.frf]
def Cx.Ok.unwish (ok:(X.wish E).Ok):X.Ok :=
 #[ok.mod,ok.kind,ok.glob,ok.blt,ok.above,ok.inj,ok.has,ok.cab,ok.hd,ok.frames,ok.stk,ok.exf,ok.bs,ok.bsz,ok.noex,ok.exfs,ok.funs,ok.frf]
section
variable {X:Cx} {pins:List (Mc×Obj)} {σ:St} {H:Hp} {s:Mb} {E:Ma->Mb->Prop}
def Inv.wish (I:Inv X pins σ H s) (E:Ma->Mb->Prop):Inv (X.wish E) pins σ H s:=#[I.ok.wish E,I.os,I.bare,I.base,I.loc,I.cell,I.free,I.freeC,I.pin,I.hok,I.len]
def Inv.unwish (I:Inv (X.wish E) pins σ H s):Inv X pins σ H s:=#[I.ok.unwish,I.os,I.bare,I.base,I.loc,I.cell,I.free,I.freeC,I.pin,I.hok,I.len]
def SP.unwish {D:cU} {f:Flow} {s':Mb} (h:SP (X.wish E) pins D f s'):SP X pins D f s':=by
 cases f with
 | next=>let#[σ',H',I,q]:=h; show#[σ',H',I.unwish,q]
 | brk=>let#[σ',H',I,q]:=h; show#[σ',H',I.unwish,q]
 | cont=>let#[σ',H',I,q]:=h; show#[σ',H',I.unwish,q]
 | ret u=>let#[v,σ',H',I,r,q]:=h; show#[v,σ',H',I.unwish,r,q]
def aY.nox {st:List Stmt} {t:TS} (h:aY X.nox st t):aY X st t:=λpins s σ H D I hw =>
 LI (h pins s σ H D (I.wish _) hw) (λ_ _ q=>q.unwish) λ_ _ z=>False.elim z
end
section
variable {X:Cx} {st:Stmt} {rest:List Stmt} {t u:TS} {e:Expr} {te:TE} {pos:Pos}
abbrev Ij:TS:=λD σ H=>D.nx σ H
abbrev jS (t u:TS):TS:=λD σ H=>t { D with nx:=u D } σ H
def ag:aY X [] Ij:=λ_ _ σ H _ I h=>MQ #[σ,H,I,h]
def aH (h1:PS X st t) (h2:aY X rest u):aY X (st::rest) (jS t u):=by
 intro pins s σ H D I h;refine MA (al (h1 pins s σ H { D with nx:=u D } I h) λf s1 q=>?_);cases f with
 | next =>
   let#[σ',H',I',q]:=q;exact h2 pins s1 σ' H' D I' q
 | ret v=>exact q
 | brk=>exact q
 | cont=>exact q
def aK (h1:PS X st t):aY X [st] t:=by
 intro pins s σ H D I h;refine MA (al (h1 pins s σ H D I h) λf s1 q=>?_);cases f with
 | next=>exact MQ q
 | ret v=>exact q
 | brk=>exact q
 | cont=>exact q
def Inv.quiet (I:Inv X pins σ H s):interactive X.env=false:=by simp [interactive,I.ok.kind]
abbrev Ae (te:TE):TS:=λD σ H=>te σ H λ_ H1=>D.nx σ H1
def du (he:PE X e te) (hs:swapsWith e none pos.line X.env=pure false:=by rfl):PS X (.Expr e pos) (Ae te):=by intro pins s σ H D I h;exact wpAny_Expr_any (al (he pins s σ H _ I h) λv s1 z16_=>by let#[x,H1,I1,r1,q1]:=z16_; show#[σ,H1,I1,q1]) I.quiet hs
abbrev vZ (te:TE):TS:=λD σ H=>te σ H D.rt
def af (he:PE X e te):PS X (.Return ⇑e pos) (vZ te):=by intro pins s σ H D I h;exact wpAny_Return_some (al (he pins s σ H _ I h) λv s1 z17_=>by let#[x,H1,I1,r1,q1]:=z17_; show#[x,σ,H1,I1,r1,q1])
abbrev wO (c:TT) (t u:TS):TS:=λD σ H=>c σ H λb H1=>if b=true then t D σ H1 else u D σ H1
def ai {c:Expr} {a b:List Stmt} {tc:TT} (hc:PT X c tc) (ha:aY X a t) (hb:aY X b u):PS X (.If c a b pos) (wO tc t u):=by
 intro pins s σ H D I h;refine wpAny_If (al (hc pins s σ H _ I h) λd s1 z18_=>?_);let#[H1,I1,q1]:=z18_;cases d with
 | true=>exact ha pins s1 σ H1 D I1 q1
 | false=>exact hb pins s1 σ H1 D I1 q1
end
noncomputable abbrev TG:=V->St->Hp->(St->Hp->Prop)->Prop
noncomputable abbrev ga:=List V->St->Hp->(St->Hp->Prop)->Prop
abbrev PG (X:Cx) (target:Expr) (t:TG):Prop :=
 ∀(pins:List (Mc×Obj)) (s:Mb) (σ:St) (H:Hp) (v:V) (u:Ma) (Q:St->Hp->Prop),Inv X pins σ H s->bC v u->t v σ H Q ->
   wpAny 0x5 X.A (assign target X.env u) (λ_ s'=>∃σ' H',Inv X pins σ' H' s'/\Q σ' H') X.xe s
abbrev oW (X:Cx) (ts:List Expr) (t:ga):Prop :=
 ∀(pins:List (Mc×Obj)) (s:Mb) (σ:St) (H:Hp) (vs:List V) (us:List Ma) (Q:St->Hp->Prop),Inv X pins σ H s->ao vs us->t vs σ H Q ->
   wpAny 0x5 X.A (assignInOrder ((assignEach ts X.env).map (·.2)) us) (λ_ s'=>∃σ' H',Inv X pins σ' H' s'/\Q σ' H') X.xe s
noncomputable abbrev qB:=V->V->V->Hp->(Hp->Prop)->Prop
abbrev vM (X:Cx) (t:qB):Prop :=
 ∀(pins:List (Mc×Obj)) (s:Mb) (σ:St) (H:Hp) (o i v:V) (ov iv u:Ma) (Q:Hp->Prop),Inv X pins σ H s->bC o ov->bC i iv->bC v u->t o i v H Q ->
   wpAny 0x5 X.A (setItem ov iv u) (λ_ s'=>∃H',Inv X pins σ H' s'/\Q H') X.xe s
variable {tg:Expr} {te:TE}
section
variable {X:Cx} {pos:Pos}
abbrev jB (i:Nat):TG:=λv σ H Q=>Q (σ.set i ⇑v) H
def bD {i:Nat} (hN:X.N.Nodup) (hi:X.N[i]?=⇑x) (hx:jO X.env.scope x) (hf:X.fn x=true\/X.env.scope.names.lookup x=some .local:=by first|exact .inl rfl|exact .inr rfl|assumption):PG X (.Name x pos) (jB i):=by intro pins s σ H v u Q I r h;exact wpAny_assign_Name (xN I hN hi hx r (λs' I'=>#[_,H,I',h]) hf)
abbrev uc:ga:=λvs σ H Q=>vs=[]/\Q σ H
abbrev we (t:TG) (u:ga):ga:=λvs σ H Q=>∃v r,vs=v::r/\t v σ H λσ' H'=>u r σ' H' Q
def dL:oW X [] uc:=by intro pins s σ H vs us Q I r h;let#[e,h]:=h;subst e;cases r;exact assignInOrder_nil #[σ,H,I,h]
def bg {e:Expr} {es:List Expr} {t:TG} {u:ga} (h1:PG X e t) (h2:oW X es u)
   (hs:(assignEach (e::es) X.env).map (·.2)=assign e X.env::(assignEach es X.env).map (·.2):=by rfl):oW X (e::es) (we t u):=by
 intro pins s σ H vs us Q I r h;let#[v,vr,e1,h]:=h;subst e1;cases r with
 | cons r rr =>
   rw[hs];refine assignInOrder_cons (al (h1 pins s σ H _ _ _ I r h) λ_ s1 z19_=>?_);let#[σ1,H1,I1,q1]:=z19_;exact h2 pins s1 σ1 H1 _ _ Q I1 rr q1
abbrev m9 (K:Md) (n:Nat) (t:ga):TG:=λv σ H Q=>∃a xs,v=↥a/\aD K H a xs/\xs.length=n/\t xs σ H Q
def dI {es:List Expr} {k:Nat} {t:ga} {n:Nat} (hc:X.calm=true) (h:oW X es t)
   (hn:(assignEach es X.env).length=n:=by rfl) (hst:(assignEach es X.env).findIdx? (·.1)=none:=by rfl):PG X (.Tuple es k pos) (m9 X.K n t):=by
 intro pins s σ H v u Q I r hw;let#[a,xs,e1,hq,hl,hw]:=hw;subst e1;cases r;let#[its,rv,ht,hz]:=I.tuple hq;refine assign_Tuple_tuple (I.ok.hd hc) ht (by simp [hn,<- hl,rv.length]) hst λh' hx=>?_;have I1:Inv X pins σ H { s with heap:=h' }:=I.kept (t':=s.toks) λb o e=>hx b o (Js (JX e)) e;exact h pins _ σ H xs _ Q I1 ↑rv hw
abbrev Iz (to ti:TE) (t:qB):TG:=λv σ H Q=>to σ H λo H1=>ti σ H1 λi H2=>t o i v H2 λH3=>Q σ H3
def gO {o i:Expr} {to ti:TE} {t:qB} (ho:PE X o to) (hi:PE X i ti) (hs:vM X t)
   (ha:∀v,assign (.Subscript o i pos) X.env v=(do
     let ov <- holding [v] (eval o X.env)
     let iv <- holding [v,ov] (eval i X.env)
     standAt pos
     holding [v,ov,iv] (setItem ov iv v)
     release [v,ov,iv] []):=by intro _; rfl):PG X (.Subscript o i pos) (Iz to ti t):=by
 intro pins s σ H v u Q I r h;rw[ha];refine JD (K6 (al (ho pins s σ H _ I h) λov s1 z20_=>?_));let#[x,H1,I1,r1,q1]:=z20_;refine JD (K6 (al (hi pins s1 σ H1 _ I1 q1) λiv s2 z21_=>?_));let#[y,H2,I2,r2,q2]:=z21_;refine JD (MV (JD (K6 (al (hs pins s2 σ H2 x y v ov iv u _ I2 r1 r2 r q2) λ_ s3 z22_=>?_))));let#[H3,I3,q3]:=z22_;exact wpAny_release #[σ,H3,I3,q3]
abbrev mr (te:TE) (g:TG):TS:=λD σ H=>te σ H λx H1=>g x σ H1 D.nx
def fJ {e:Expr}{g:TG} (he:PE X e te) (hg:PG X tg g) (hs:swapsWithSole [tg] e pos.line X.env=pure false:=by rfl) (hw:swappedStores [tg] e X.env=pure none:=by rfl)
   (h1:(assignEach [tg] X.env).map (·.2)=[assign tg X.env]:=by rfl):PS X (.Assign [tg] e pos) (mr te g):=by
 intro pins s σ H D I h;refine wpAny_Assign_stores (al (he pins s σ H _ I h) λv s1 z23_=>?_) hs hw;let#[x,H1,I1,r1,q1]:=z23_;rw[h1];exact al (hg pins s1 σ H1 x v _ I1 r1 q1) λ_ s2 q=>q
def m6 {i:Nat} {e:Expr} {pos':Pos} (hN:X.N.Nodup) (hi:X.N[i]?=⇑x) (hx:jO X.env.scope x) (he:PE X e te) (hs:swapsWith e ⇑(.Name x pos') pos.line X.env=pure false:=by rfl) (hf:X.fn x=true\/X.env.scope.names.lookup x=some .local:=by first|exact .inl rfl|exact .inr rfl|assumption) :
   PS X (.Assign [.Name x pos'] e pos) (mr te (jB i)):=by
 intro pins s σ H D I h;refine wpAny_Assign_Name (al (he pins s σ H _ I h) λv s1 z24_=>?_) hs;let#[y,H1,I1,r1,q1]:=z24_;exact xN I1 hN hi hx r1 (λs2 I2=>#[_,H1,I2,q1]) hf
end
structure It where
 go:Nat->Hp->Prop
 yld:Nat->Hp->V->Hp->Prop
 stop:Nat->Hp->Prop
abbrev fL (X:Cx) (pins:List (Mc×Obj)) (H:Hp) (b:Mc):Prop :=
 H b=none/\b≠X.env.locals/\b ∉ X.fs/\(b∈X.ex\/X.s₀.heap.objs.size<=b)/\(∀x c,X.env.cells.lookup x=⇑c->c≠b)/\∀p∈X.pn++pins,p.1≠b
def Inv.fpOk {H':Hp}(I:Inv X pins σ H s) (hb:s.heap.objs.size<=b) (hn:H' b=none):fL X pins H' b:=by
 show#[hn,Ka (Ji I.lt hb),I.nofs hb,.inr (Jj I.sz hb),λx c e z=>?_,λp hp z=>?_]
 . let#[v,q]:=I.cell x c e;exact absurd (Ji q.lt (by rw[z]; exact hb)) (K2 _)
 . exact absurd (Ji (JX (I.pin p hp).1) (by rw[z]; exact hb)) (K2 _)
structure Turn (P:Program) (w:World) (K:W.Frag) (tg:Expr) (J:It) (fp:List Addr) (it:Addr) (tn:Nat->Heap->Prop):Prop where
 mem:it∈fp
 obj:∀i h,tn i h->∀b∈fp,∃o,h.get? b=⇑o/\∀v,o.data≠.cell v
 keep:∀i h h',tn i h->(∀b∈fp,∀o,h.get? b=⇑o->h'.get? b=⇑o)->tn i h'
 item:∀(X:Cx),X.prog=P->X.w=w->X.K=K->X.calm=true->∀(i:Nat) (pins:List (Addr×Obj)) (s:Shared) (σ:St) (H:Hp) (E:Value->Shared->Prop),Inv X pins σ H s->(∀b∈fp,fL X pins H b)->tn i s.heap->J.go i H ->
   wpAny (model P w) X.A (pyNext ↥it) (λr s1=>∃u,r=⇑u /\
     wpAny (model P w) X.A (letOwnedTupleGo tg ↥it u) (λ_ s2=>∃x H',Inv X pins σ H' s2/\bC x u/\J.yld i H x H'/\tn (i+1) s2.heap/\∀b∈fp,H' b=none) E s1) E s
 done:∀(X:Cx),X.prog=P->X.w=w->X.K=K->X.calm=true->∀(i:Nat) (pins:List (Addr×Obj)) (s:Shared) (σ:St) (H:Hp) (E:Value->Shared->Prop),Inv X pins σ H s->(∀b∈fp,fL X pins H b)->tn i s.heap->J.stop i H ->
   wpAny (model P w) X.A (pyNext ↥it) (λr s1=>r=none/\Inv X pins σ H s1) E s
 self:∀(A:Around) (i:Nat) (s:Shared) (Q:Value->Shared->Prop) (E:Value->Shared->Prop),tn i s.heap->Q ↥it s->wpAny (model P w) A (pyIter ↥it) Q E s
noncomputable abbrev TI:=St->Hp->(It->Hp->Prop)->Prop
abbrev PIE (X:Cx) (pins:List (Mc×Obj)) (σ:St) (tg:Expr) (R:It->Hp->Prop) (itv:Ma) (s2:Mb):Prop :=
 ∃(it:Mc) (fp:List Mc) (tn:Nat->Heap->Prop) (J:It) (H':Hp),itv=↥it/\Inv X pins σ H' s2/\Turn X.prog X.w X.K tg J fp it tn/\tn 0 s2.heap/\(∀b∈fp,fL X pins H' b)/\R J H'
abbrev PI (X:Cx) (tg iter:Expr) (wi:TI):Prop :=
 ∀(pins:List (Mc×Obj)) (s:Mb) (σ:St) (H:Hp) (R:It->Hp->Prop),Inv X pins σ H s->wi σ H R ->
   wpAny 0x5 X.A (eval iter X.env) (λv s1=>wpAny 0x5 X.A (pyIter v) (PIE X pins σ tg R) X.xe s1) X.xe s
def ni {it:Mc} {o:Obj} {n:String} {vs:Array Ma} {Q:Unit->Mb->Prop} (ho:s.heap.get? it=⇑o) (hc:o.cls=.type n) (hd:o.data=.fields vs)
   (hn:["enumerate","zip","dict_itemiterator","dict_reverseitemiterator","odict_iterator","itertools.zip_longest","itertools.pairwise"].contains n=false) (hQ:Q () s):wpAny M A (letOwnedTupleGo tg ↥it u) Q E s:=by
 unfold letOwnedTupleGo;cases tg <;> first
   | exact JQ hQ
   | (cases u <;> first
       | exact JQ hQ
       | (refine JD (wpAny_load ho ?_)
          rw[hc,hd];show wpAny M A (if(["enumerate","zip","dict_itemiterator","dict_reverseitemiterator","odict_iterator","itertools.zip_longest","itertools.pairwise"].contains n&&vs[0]?==⇑(rawInt _))=true then _ else _) Q E s;rw[JI (by intro h; rw[hn,Ki] at h; cases h)];exact JQ hQ))
abbrev jC (K:Md) (a:Mc):It :=
 #[λi H=>∃xs x,aE K H a xs/\xs[i]?=⇑x,λi H x H'=>H'=H/\∀xs,aE K H a xs->xs[i]?=⇑x,λi H=>∃xs,aE K H a xs/\xs.length<=i]
abbrev j3 (K:Md) (a:Mc):It :=
 #[λi H=>∃xs x,aD K H a xs/\xs[i]?=⇑x,λi H x H'=>H'=H/\∀xs,aD K H a xs->xs[i]?=⇑x,λi H=>∃xs,aD K H a xs/\xs.length<=i]
abbrev gh (lo:Int) (n:Nat):It:=#[λi _=>i<n,λi H x H'=>H'=H/\x=.int (lo+i),λi _=>n<=i]
def Bu (a it:Mc):Turn P w K tg (jC K a) [it] it (λi h=>h.IsListIter it a i) where
 mem:=by simp
 obj:=λi h st b hb=>by
   have e:b=it:=↑hb
   subst e;let#[o,e,c,d]:=st;show#[o,e,λv z=>by rw[d] at z; cases z]
 keep:=λi h h' st k=>st.at λo e=>k it 0x6 o e
 item:=by intro X hP hw hK hc i pins s σ H E I hf st hg;subst hP hw hK;let#[xs,x,hq,hx]:=hg;let#[its,rv,p,hz]:=I.list hq;let#[u,hu,ru]:=rv.get hx;let#[f0,f1,f2,f3,f4,f5]:=hf it 0x6;refine wpAny_pyNext_list_item st p.isList (x:=u) ↑hu λh' st' sb=>?_;have I1:Inv X pins σ H { s with heap:=h' }:=I.turned (t':=s.toks) (λb o hb e=>(sb.2 b hb)\e) f0 f1 f3 f4 f5;let#[o,e,c,d]:=id st';show#[u,rfl,ni (s:={ s with heap:=h' }) e c d #[] #[x,H,I1,ru,#[rfl,λys hy=>by rw[I.list_inj hy hq]; exact hx],st',λb hb=>(hf b hb).1]]
 done:=by intro X hP hw hK hc i pins s σ H E I hf st hg;subst hP hw hK;let#[xs,hq,hx]:=hg;let#[its,rv,p,hz]:=I.list hq;let#[f0,f1,f2,f3,f4,f5]:=hf it 0x6;have hl:=rv.length;exact wpAny_pyNext_list_end (I.ok.hd hc) st p.isList (by simp; lia) λh' eb=>#[rfl,I.turned (t':=s.toks) (λb o hb e=>eb b o hb e) f0 f1 f3 f4 f5]
 self:=λ_ _ _ _ _ st h=>wpAny_pyIter_listiter st h
def Bm (a it:Mc):Turn P w K tg (j3 K a) [it] it (λi h=>h.IsTupleIter it a i) where
 mem:=by simp
 obj:=λi h st b hb=>by
   have e:b=it:=↑hb
   subst e;let#[o,e,c,d]:=st;show#[o,e,λv z=>by rw[d] at z; cases z]
 keep:=λi h h' st k=>st.at λo e=>k it 0x6 o e
 item:=by intro X hP hw hK hc i pins s σ H E I hf st hg;subst hP hw hK;let#[xs,x,hq,hx]:=hg;let#[its,rv,p,hz]:=I.tuple hq;let#[u,hu,ru]:=rv.get hx;let#[f0,f1,f2,f3,f4,f5]:=hf it 0x6;refine wpAny_pyNext_tuple_item st (show s.heap.IsTuple a its.toArray from p) (x:=u) ↑hu λh' st' sb=>?_;have I1:Inv X pins σ H { s with heap:=h' }:=I.turned (t':=s.toks) (λb o hb e=>(sb.2 b hb)\e) f0 f1 f3 f4 f5;let#[o,e,c,d]:=id st';show#[u,rfl,ni (s:={ s with heap:=h' }) e c d #[] #[x,H,I1,ru,#[rfl,λys hy=>by rw[I.tuple_inj hy hq]; exact hx],st',λb hb=>(hf b hb).1]]
 done:=by intro X hP hw hK hc i pins s σ H E I hf st hg;subst hP hw hK;let#[xs,hq,hx]:=hg;let#[its,rv,p,hz]:=I.tuple hq;let#[f0,f1,f2,f3,f4,f5]:=hf it 0x6;have hl:=rv.length;exact wpAny_pyNext_tuple_end (I.ok.hd hc) st (show s.heap.IsTuple a its.toArray from p) (by simp; lia) λh' eb=>#[rfl,I.turned (t':=s.toks) (λb o hb e=>eb b o hb e) f0 f1 f3 f4 f5]
 self:=λ_ _ _ _ _ st h=>wpAny_pyIter_tupleiter st h
def GW (it:Mc) (lo:Int) (n:Nat):Turn P w K tg (gh lo n) [it] it (λi h=>IsRangeIter h it (lo+(i:Nat) * 1) ((n:Int) - (i:Nat)) 1) where
 mem:=by simp
 obj:=λi h st b hb=>by
   have e:b=it:=↑hb
   subst e;show#[_,st,λv z=>by have z':Data.fields _=Data.cell v:=z;cases z']
 keep:=λi h h' st k=>k it 0x6 _ st
 item:=by intro X hP hw hK hc i pins s σ H E I hf st hg;subst hP hw hK;let#[f0,f1,f2,f3,f4,f5]:=hf it 0x6;have W:=Walks.range (prog:=X.prog) (w:=X.w) (I.ok.hd hc) it lo 1 n;refine W.item i s _ _ hg st λv h' tk hv st' kk=>?_;let#[t,rfl]:=hv;have I1:Inv X pins σ H { s with heap:=h',toks:=tk }:=I.turned (λb o hb e=>kk b o ↑hb e) f0 f1 f3 f4 f5;show#[5,ni (s:={ s with heap:=h',toks:=tk }) (n:="range_iterator") st' rfl rfl #[] #[.int (lo+i),H,I1,#[t,?_],#[7],st',λb hb=>(hf b hb).1]];rw[Int.mul_one]
 done:=by intro X hP hw hK hc i pins s σ H E I hf st hg;subst hP hw hK;let#[f0,f1,f2,f3,f4,f5]:=hf it 0x6;exact wpAny_pyNext_range_end (I.ok.hd hc) st (by have:n<=i:=hg; lia) λh' eb=>#[rfl,I.turned (t':=s.toks) (λb o hb e=>eb b o hb e) f0 f1 f3 f4 f5]
 self:=λ_ _ _ _ _ st h=>wpAny_pyIter_rangeiter st h
variable {tb:TS}
section
variable {X:Cx} {tg:Expr}
abbrev wZ (K:Md) (tl:TE):TI:=λσ H R=>tl σ H λx H1=>∃a,x=↥a/\(∃xs,aE K H1 a xs)/\R (jC K a) H1
abbrev FR (K:Md) (tl:TE):TI:=λσ H R=>tl σ H λx H1=>∃a,x=↥a/\(∃xs,aD K H1 a xs)/\R (j3 K a) H1
def di {l:Expr} {tl:TE} (hl:PE X l tl):PI X tg l (wZ X.K tl):=by
 intro pins s σ H R I h;refine al (hl pins s σ H _ I h) λv s1 z35_=>?_;let#[x,H1,I1,r1,q1]:=z35_;obtain⟨a,e,⟨xs,hq⟩,q⟩:=q1;subst e;cases r1;let#[its,rv,p,hz]:=I1.list hq;refine Kw p.isList ?_;show#[s1.heap.objs.size,[s1.heap.objs.size],4,H1,rfl,I1.kept (t':=s1.toks) λb o e=>JJ _ e,Bu a _,#[_,Jb _ rfl,7],λb hb=>?_,q];have e:b=s1.heap.objs.size:=↑hb
 subst e;exact I1.fpOk (JN _) (I1.hok.fresh (JN _))
def kJ {l:Expr} {tl:TE} (hl:PE X l tl):PI X tg l (FR X.K tl):=by
 intro pins s σ H R I h;refine al (hl pins s σ H _ I h) λv s1 z36_=>?_;let#[x,H1,I1,r1,q1]:=z36_;obtain⟨a,e,⟨xs,hq⟩,q⟩:=q1;subst e;cases r1;let#[its,rv,p,hz]:=I1.tuple hq;refine Kj (show s1.heap.IsTuple a its.toArray from p) ?_;show#[s1.heap.objs.size,[s1.heap.objs.size],4,H1,rfl,I1.kept (t':=s1.toks) λb o e=>JJ _ e,Bm a _,#[_,Jb _ rfl,7],λb hb=>?_,q];have e:b=s1.heap.objs.size:=↑hb
 subst e;exact I1.fpOk (JN _) (I1.hok.fresh (JN _))
def FV {R:It->Hp->Prop} {lo hi:Int} {t u v:Tok} {tk:Nat} (I:Inv X pins σ H s) (h1:-(2 ^ 62)<=lo) (h2:lo<2 ^ 62) (h3:-(2 ^ 62)<=hi) (h4:hi<2 ^ 62)
   (q:R (gh lo (hi - lo).toNat) H):wpAny 0x5 X.A (pyIter ↥s.heap.objs.size) (PIE X pins σ tg R) E { s with heap:=s.heap.push { cls:=.type "range",data:=.fields (List.toArray [.int lo t,.int hi u,.int 1 v]) },toks:=tk }:=by
 refine wpAny_pyIter_range (IsRange.new ..) (small_one h1 h2 h3 h4) ?_;have I1:Inv X pins σ H { s with heap:=s.heap.push { cls:=.type "range",data:=.fields (List.toArray [.int lo t,.int hi u,.int 1 v]) },toks:=tk }:=I.kept λb o e=>JJ _ e;show#[(s.heap.push { cls:=.type "range",data:=.fields (List.toArray [.int lo t,.int hi u,.int 1 v]) }).objs.size,[(s.heap.push { cls:=.type "range",data:=.fields (List.toArray [.int lo t,.int hi u,.int 1 v]) }).objs.size],4,H,rfl,
   I1.kept (t':=tk) λb o e=>JJ _ e,GW _ lo (hi - lo).toNat,?_,λb hb=>?_,q]
 . have e1:lo+((0:Nat):Int) * 1=lo:=by simp
   have e2:(((hi - lo).toNat:Nat):Int) - ((0:Nat):Int)=Builtin.Range.rangeSize lo hi 1:=by rw[rangeSize_one]; split <;> lia
   show IsRangeIter _ _ (lo+((0:Nat):Int) * 1) ((((hi - lo).toNat:Nat):Int) - ((0:Nat):Int)) 1;rw[e1,e2];exact Jb _ rfl
 . have e:b=(s.heap.push { cls:=.type "range",data:=.fields (List.toArray [.int lo t,.int hi u,.int 1 v]) }).objs.size:=↑hb
   subst e;exact I1.fpOk (JN _) (I1.hok.fresh (JN _))
abbrev GT (ta:TA):TI:=λσ H R=>ta σ H λvs H1=>∃j:Int,vs=[.int j]/\-(2 ^ 62)<=j/\j<2 ^ 62/\R (gh 0 j.toNat) H1
def fO {a:Expr} {ta:TA} {p:Pos}(hg:Gl X "range") (hm:X.mg "range"=none) (ha:PA X [a] ta) (hs:starEach [a] X.env=[(false,eval a X.env)]:=by rfl):PI X tg (.Call (.Name "range" p) [a] [] pos) (GT ta):=by
 intro pins s σ H R I h;refine Call_ (fY I hg hm boot_range (Jv (al (ha pos pins s σ H _ I h) λus s1 z37_=>?_) hs rfl));let#[vs,H1,I1,r1,q1]:=z37_;let#[j,e,q1,q2,q]:=q1;subst e;cases r1 with
 | cons r rr =>
   cases rr;let#[t,rfl]:=r;exact call_range_1 (FV I1 ∅ ∅ q1 q2 ↑q)
abbrev Dq (wi:TI) (g:TG) (tb:TS):TS:=λD σ H=>wi σ H λJ H1=>∃W:Nat->Nat->St->Hp->Prop,(∃m,W 0 m σ H1)/\∀i m σ H,W i m σ H ->
 (J.stop i H/\D.nx σ H)\/(J.go i H/\∃N:St->Hp->Prop,(∀σ' H',N σ' H'->∃m',m'<m/\W (i+1) m' σ' H')/\∀x H',J.yld i H x H'->g x σ H' λσ2 H2=>tb { D with nx:=N,ct:=N,bk:=D.nx } σ2 H2)
abbrev lM (fp:List Mc) (h:Heap):List (Mc×Obj):=fp.filterMap λb=>(h.get? b).map λo=>(b,o)
def mN {fp:List Mc} {o:Obj} (hb:b∈fp) (e:h.get? b=⇑o):(b,o)∈lM fp h:=Lw.mpr #[b,hb,by rw[e]; rfl]
def Gk {fp:List Mc} {p:Mc×Obj} (hp:p∈lM fp h):p.1∈fp/\h.get? p.1=⇑p.2:=by
 let#[b,hb,e]:=Lw.mp hp;cases q:h.get? b with
 | none=>rw[q] at e; cases e
 | some o =>
   rw[q] at e;have e':(b,o)=p:=Option.some.inj e;subst e';show#[hb,q]
def Inv.pinned {fp:List Mc} (I:Inv X pins σ H s) (hf:∀b∈fp,fL X pins H b) (ho:∀b∈fp,∃o,s.heap.get? b=⇑o/\∀v,o.data≠.cell v):Inv X (pins++lM fp s.heap) σ H s :=
 I.pins_of λp hp=>(JV.mp hp).elim (λz=>I.pin p (Jq _ z)) λz=>by let#[hb,e]:=Gk z;let#[f0,f1,f2,_]:=hf p.1 hb;let#[o,e',d]:=ho p.1 hb;rw[e] at e'; cases e';show#[e,f0,f1,f2,d]
def Inv.unpinned {pl:List (Mc×Obj)}(I:Inv X (pins++pl) σ H s):Inv X pins σ H s:=I.pins_of λp hp=>I.pin p (Jq _ (KB _ hp))
def cf {iter:Expr} {body:List Stmt} {wi:TI} {g:TG} (hp:PassesOwn 0x5 X.A X.env X.xe) (hc:X.calm=true) (hi:PI X tg iter wi) (hg:PG X tg g) (hb:aY X body tb)
   (hs:∀x,foldedSetIterable iter X.env x=pure x:=by intro _; rfl):PS X (.For tg iter body [] pos) (Dq wi g tb):=by
 intro pins s σ H D I h;refine wpAny_For (al (hi pins s σ H _ I h) λv s1 h1=>al h1 λitv s2 h2=>?_) hs;obtain⟨it,fp,tn,J,H2,e,I2,T,st2,f2,W,⟨m0,w0⟩,turn⟩:=h2;subst e
 -- what stays true of the iterator's objects through the loop
 have stat:∀{H':Hp},(∀b∈fp,H' b=none)->∀b∈fp,fL X pins H' b:=λhn b hb=>#[hn b hb,(f2 b hb).2]
 refine codeAny_forLoop_any (λn s'=>∃i σ' H',Inv X pins σ' H' s'/\tn i s'.heap/\(∀b∈fp,H' b=none)/\W i n σ' H') ?_ m0 #[(0),σ,H2,I2,st2,λb hb=>(f2 b hb).1,w0];rintro n s3 ⟨i,σ3,H3,I3,st3,fr3,w3⟩;rcases turn i n σ3 H3 w3 with⟨stop,qn⟩|⟨go,N,hN,step⟩
 . refine L9 hp (al (T.done X rfl rfl rfl hc i pins s3 σ3 H3 X.xe I3 (stat fr3) st3 stop) λr s4 z39_=>?_);let#[hr,I4]:=z39_;subst hr;exact MQ #[σ3,H3,I4,qn]
 . refine L9 hp (al (T.item X rfl rfl rfl hc i pins s3 σ3 H3 X.xe I3 (stat fr3) st3 go) λr s4 z40_=>?_);let#[u,hr,h4]:=z40_;subst hr;refine L9 hp (al h4 λ_ s5 z41_=>?_);let#[x,H5,I5,r5,y5,st5,dX]:=z41_;have I5':=I5.pinned (stat dX) (T.obj _ _ st5);refine L9 hp (al (hg _ s5 σ3 H5 x u _ I5' r5 (step x H5 y5)) λ_ s6 z42_=>?_);let#[σ6,H6,I6,q6]:=z42_;refine L9 hp (al (hb _ s6 σ6 H6 _ I6 q6) λf s7 q7=>?_);have again:∀{σ7:St} {H7:Hp},Inv X (pins++lM fp s5.heap) σ7 H7 s7->N σ7 H7->∃m,m<n/\∃i σ' H',Inv X pins σ' H' s7/\tn i s7.heap/\(∀b∈fp,H' b=none)/\W i m σ' H':=λ{σ7 H7} I7 n7=>by let#[m',hm,w7]:=hN σ7 H7 n7;show#[m',hm,i+1,σ7,H7,I7.unpinned,T.keep _ _ _ st5 λb hb o e=>(I7.pin (b,o) (Jq _ (Jq _ (mN hb e)))).1,λb hb=>?_,w7];let#[o,e,d]:=T.obj _ _ st5 b hb;exact(I7.pin (b,o) (Jq _ (Jq _ (mN hb e)))).2.1
   cases f with
   | next=>let#[σ7,H7,I7,n7]:=q7; exact again I7 n7
   | cont=>let#[σ7,H7,I7,n7]:=q7; exact again I7 n7
   | brk=>let#[σ7,H7,I7,q7]:=q7; show#[σ7,H7,I7.unpinned,q7]
   | ret v=>let#[x7,σ7,H7,I7,r7,q7]:=q7; show#[x7,σ7,H7,I7.unpinned,r7,q7]
end
def qX {a:Mc} {xs:List V} {g:TG} {D:cU} (Pv:Nat->St->Hp->Prop) (h0:Pv 0 σ H) (hl:∀i σ H,i<=xs.length->Pv i σ H->aE K H a xs)
   (hs:∀i x σ H,xs[i]?=⇑x->Pv i σ H->g x σ H λσ2 H2=>tb { D with nx:=Pv (i+1),ct:=Pv (i+1),bk:=D.nx } σ2 H2) (hd:∀σ H,Pv xs.length σ H->D.nx σ H) :
   ∃W:Nat->Nat->St->Hp->Prop,(∃m,W 0 m σ H)/\∀i m σ H,W i m σ H ->
     ((jC K a).stop i H/\D.nx σ H)\/((jC K a).go i H/\∃N:St->Hp->Prop,(∀σ' H',N σ' H'->∃m',m'<m/\W (i+1) m' σ' H')/\∀x H',(jC K a).yld i H x H'->g x σ H' λσ2 H2=>tb { D with nx:=N,ct:=N,bk:=D.nx } σ2 H2):=by
 show#[λi m σ H=>m=xs.length - i/\i<=xs.length/\Pv i σ H,#[xs.length,by simp,Jm _,h0],?_];rintro i m σ H ⟨rfl,hi,p⟩;have q:=hl i σ H hi p;by_cases hlt:i<xs.length
 . refine .inr #[#[xs,xs[i],q,by simp [hlt]],Pv (i+1),λσ' H' p'=>#[xs.length - (i+1),∅,rfl,hlt,p'],λx H' y=>?_];let#[e,y]:=y;subst e;exact hs i x σ _ (y xs q) p
 . have e:i=xs.length:=by lia
   subst e;exact .inl #[#[xs,q,JN _],hd σ H p]
def Im {a:Mc} {xs:List V} {g:TG} {D:cU} (Pv:Nat->St->Hp->Prop) (h0:Pv 0 σ H) (hl:∀i σ H,i<=xs.length->Pv i σ H->aD K H a xs)
   (hs:∀i x σ H,xs[i]?=⇑x->Pv i σ H->g x σ H λσ2 H2=>tb { D with nx:=Pv (i+1),ct:=Pv (i+1),bk:=D.nx } σ2 H2) (hd:∀σ H,Pv xs.length σ H->D.nx σ H) :
   ∃W:Nat->Nat->St->Hp->Prop,(∃m,W 0 m σ H)/\∀i m σ H,W i m σ H ->
     ((j3 K a).stop i H/\D.nx σ H)\/((j3 K a).go i H/\∃N:St->Hp->Prop,(∀σ' H',N σ' H'->∃m',m'<m/\W (i+1) m' σ' H')/\∀x H',(j3 K a).yld i H x H'->g x σ H' λσ2 H2=>tb { D with nx:=N,ct:=N,bk:=D.nx } σ2 H2):=by
 show#[λi m σ H=>m=xs.length - i/\i<=xs.length/\Pv i σ H,#[xs.length,by simp,Jm _,h0],?_];rintro i m σ H ⟨rfl,hi,p⟩;have q:=hl i σ H hi p;by_cases hlt:i<xs.length
 . refine .inr #[#[xs,xs[i],q,by simp [hlt]],Pv (i+1),λσ' H' p'=>#[xs.length - (i+1),∅,rfl,hlt,p'],λx H' y=>?_];let#[e,y]:=y;subst e;exact hs i x σ _ (y xs q) p
 . have e:i=xs.length:=by lia
   subst e;exact .inl #[#[xs,q,JN _],hd σ H p]
def j0 {lo:Int} {n:Nat} {g:TG} {D:cU} (Pv:Nat->St->Hp->Prop) (h0:Pv 0 σ H)
   (hs:∀i σ H,i<n->Pv i σ H->g (.int (lo+i)) σ H λσ2 H2=>tb { D with nx:=Pv (i+1),ct:=Pv (i+1),bk:=D.nx } σ2 H2) (hd:∀σ H,Pv n σ H->D.nx σ H) :
   ∃W:Nat->Nat->St->Hp->Prop,(∃m,W 0 m σ H)/\∀i m σ H,W i m σ H ->
     ((gh lo n).stop i H/\D.nx σ H)\/((gh lo n).go i H/\∃N:St->Hp->Prop,(∀σ' H',N σ' H'->∃m',m'<m/\W (i+1) m' σ' H')/\∀x H',(gh lo n).yld i H x H'->g x σ H' λσ2 H2=>tb { D with nx:=N,ct:=N,bk:=D.nx } σ2 H2):=by
 show#[λi m σ H=>m=n - i/\i<=n/\Pv i σ H,#[n,by simp,Jm _,h0],?_];rintro i m σ H ⟨rfl,hi,p⟩;by_cases hlt:i<n
 . refine .inr #[hlt,Pv (i+1),λσ' H' p'=>#[n - (i+1),∅,rfl,hlt,p'],λx H' y=>?_];let#[e,y]:=y;subst e y;exact hs i σ _ hlt p
 . have e:i=n:=by lia
   subst e;exact .inl #[JN _,hd σ H p]
noncomputable abbrev R2:=V->V->Hp->VK->Prop
abbrev bU (X:Cx) (f:Ma->Ma->Sem Ma) (r:R2):Prop :=
 ∀(pins:List (Mc×Obj)) (s:Mb) (σ:St) (H:Hp) (x y:V) (v u:Ma) (Q:VK),Inv X pins σ H s->bC x v->bC y u->r x y H Q ->
   wpAny 0x5 X.A (f v u) (EP X pins σ Q) X.xe s
abbrev pz (X:Cx) (f:Ma->Sem Ma) (r:V->Hp->VK->Prop):Prop :=
 ∀(pins:List (Mc×Obj)) (s:Mb) (σ:St) (H:Hp) (x:V) (v:Ma) (Q:VK),Inv X pins σ H s->bC x v->r x H Q ->
   wpAny 0x5 X.A (f v) (EP X pins σ Q) X.xe s
abbrev bX (X:Cx) (f:Ma) (r:List V->Hp->VK->Prop):Prop :=
 ∀(pins:List (Mc×Obj)) (s:Mb) (σ:St) (H:Hp) (xs:List V) (us:List Ma) (Q:VK),Inv X pins σ H s->ao xs us->r xs H Q ->
   wpAny 0x5 X.A (call f us) (EP X pins σ Q) X.xe s
abbrev HI (X:Cx) (r:V->Hp->(Bool->Hp->Prop)->Prop):Prop :=
 ∀(pins:List (Mc×Obj)) (s:Mb) (σ:St) (H:Hp) (x:V) (v:Ma) (Q:Bool->Hp->Prop),Inv X pins σ H s->bC x v->r x H Q ->
   wpAny 0x5 X.A (truthy v) (TP X pins σ Q) X.xe s
abbrev gq (r:R2) (ta tb:TE):TE:=λσ H Q=>ta σ H λx H1=>tb σ H1 λy H2=>r x y H2 Q
abbrev tUn (r:V->Hp->VK->Prop) (ta:TE):TE:=λσ H Q=>ta σ H λx H1=>r x H1 Q
abbrev rI (C:Int->Int->Prop) (g:Int->Int->V):R2:=λx y H Q=>∃i j,x=.int i/\y=.int j/\C i j/\Q (g i j) H
abbrev gc (g:Int->Int->V):R2:=λx y H Q=>∃i j,x=.int i/\y=.int j/\Q (g i j) H
abbrev rU (g:Int->V):V->Hp->VK->Prop:=λx H Q=>∃i,x=.int i/\Q (g i) H
section
variable {X:Cx} {a b c:Expr} {ta tb tc:TE} {pos:Pos}
def pA (ha:PE X a ta) (hb:PE X b tb) {R:V->V->Hp->Prop} (I:Inv X pins σ H s)
   (h:ta σ H λx H1=>tb σ H1 λy H2=>R x y H2) {Q:Ma->Mb->Prop} {f:Ma->Ma->Sem Ma}
   (hf:∀v u s2 x y H2,Inv X pins σ H2 s2->bC x v->bC y u->R x y H2->wpAny 0x5 X.A (f v u) Q X.xe s2) :
   wpAny 0x5 X.A (eval a X.env) (λv s₁=>wpAny 0x5 X.A (eval b X.env) (λu s₂=>wpAny 0x5 X.A (f v u) Q X.xe s₂) X.xe s₁) X.xe s:=by
 refine al (ha pins s σ H _ I h) λv s1 z44_=>?_;let#[x,H1,I1,r1,q1]:=z44_;refine al (hb pins s1 σ H1 _ I1 q1) λu s2 z45_=>?_;let#[y,H2,I2,r2,q2]:=z45_;exact hf v u s2 x y H2 I2 r1 r2 q2
def aJ {op:Operator} {r:R2} (ho:bU X (binaryOp op) r) (ha:PE X a ta) (hb:PE X b tb):PE X (.BinOp a op b pos) (gq r ta tb):=by intro pins s σ H Q I h;exact wpAny_BinOp (pA ha hb I h λv u s2 x y H2 I2 rx ry q=>ho pins s2 σ H2 x y v u Q I2 rx ry q)
def bO {op:UnaryOp} {r:V->Hp->VK->Prop} (ho:pz X (unaryOp op) r) (ha:PE X a ta):PE X (.UnaryOp op a pos) (tUn r ta):=by intro pins s σ H Q I h;exact UnaryOp_ (al (ha pins s σ H _ I h) λv s1 z46_=>by let#[x,H1,I1,r1,q1]:=z46_; exact ho pins s1 σ H1 x v Q I1 r1 q1)
def kj {f:Ma->Ma->Sem Ma} {C:Int->Int->Prop} {g:Int->Int->Int}
   (rule:∀(i j:Int) (t u:Tok) (s:Mb) (Q:Ma->Mb->Prop) (E:Ma->Mb->Prop),C i j->Q (.int (g i j) s.toks) { s with toks:=s.toks+1 }->wpAny 0x5 X.A (f (.int i t) (.int j u)) Q E s) :
   bU X f (rI C λi j=>.int (g i j)):=by
 intro pins s σ H x y v u Q I rx ry h;let#[i,j,rfl,rfl,hc,q]:=h;let#[t,rfl]:=rx;let#[t',rfl]:=ry;exact rule i j t t' s _ _ hc #[.int (g i j),H,I.tok _,#[5],q]
def lI {f:Ma->Ma->Sem Ma} {g:Int->Int->Int}
   (rule:∀(i j:Int) (t u:Tok) (s:Mb) (Q:Ma->Mb->Prop) (E:Ma->Mb->Prop),Q (.int (g i j) s.toks) { s with toks:=s.toks+1 }->wpAny 0x5 X.A (f (.int i t) (.int j u)) Q E s) :
   bU X f (gc λi j=>.int (g i j)):=by
 intro pins s σ H x y v u Q I rx ry h;let#[i,j,rfl,rfl,q]:=h;let#[t,rfl]:=rx;let#[t',rfl]:=ry;exact rule i j t t' s _ _ #[.int (g i j),H,I.tok _,#[5],q]
def xC {f:Ma->Ma->Sem Ma} {g:Int->Int->Bool}
   (rule:∀(i j:Int) (t u:Tok) (s:Mb) (Q:Ma->Mb->Prop) (E:Ma->Mb->Prop),Q (.bool (g i j)) s->wpAny 0x5 X.A (f (.int i t) (.int j u)) Q E s) :
   bU X f (gc λi j=>.bl (g i j)):=by
 intro pins s σ H x y v u Q I rx ry h;let#[i,j,rfl,rfl,q]:=h;let#[t,rfl]:=rx;let#[t',rfl]:=ry;exact rule i j t t' s _ _ #[.bl (g i j),H,I,rfl,q]
abbrev Iu (i j:Int):Prop:=0<j/\j<1073741824
abbrev DU (i j:Int):Prop:=0<=j/\j<=1000000/\i.natAbs<2 ^ 64
abbrev qH (i j:Int):Prop:=(-(2 ^ 64)<i/\i<2 ^ 64)\/(-(2 ^ 64)<j/\j<2 ^ 64)
def qH.ok {i j:Int} (h:qH i j):IntMulOk i j:=by
 rcases h with⟨h1,h2⟩|⟨h1,h2⟩
 . exact .of_left (intBits_le_64 h1 h2)
 . exact .of_right (intBits_le_64 h1 h2)
def cM:bU X (binaryOp .Add) (gc λi j=>.int (i+j)):=lI λ_ _ _ _ _ _ _ q=>add_int q
def i4:bU X (binaryOp .Sub) (gc λi j=>.int (i - j)):=lI λ_ _ _ _ _ _ _ q=>sub_int q
def eN:bU X (binaryOp .Mult) (rI qH λi j=>.int (i * j)):=kj λ_ _ _ _ _ _ _ hc q=>mul_int q hc.ok
def bc:bU X (binaryOp .FloorDiv) (rI Iu λi j=>.int (i / j)):=kj λi j _ _ _ _ _ hc q=>by have h1:(0:Int)<j:=hc.1;have h2:j<1073741824:=hc.2;exact floordiv_int ∅ (by rw[Lz i ∅]; exact q) (.inl (PyProof.noPylong_small ∅))
def bE:bU X (binaryOp .Mod) (rI (λ_ j=>0<j) λi j=>.int (i%j)):=kj λi j _ _ _ _ _ hc q=>by have h1:(0:Int)<j:=hc;exact mod_int' ∅ (by rw[Int.fmod_eq_emod_of_nonneg i ∅]; exact q)
def lB:bU X (binaryOp .Pow) (rI DU λi j=>.int (i ^ j.toNat)):=kj λ_ _ _ _ _ _ _ hc q=>pow_int_small hc.1 hc.2.1 hc.2.2 q
def vI:bU X (binaryOp .BitAnd) (gc λi j=>.int (Builtin.bitAnd i j)):=lI λ_ _ _ _ _ _ _ q=>and_int q
def ua:bU X (binaryOp .BitOr) (gc λi j=>.int (Builtin.bitOr i j)):=lI λ_ _ _ _ _ _ _ q=>or_int q
def uJ:bU X (binaryOp .BitXor) (gc λi j=>.int (Builtin.bitXor i j)):=lI λ_ _ _ _ _ _ _ q=>xor_int q
def unI {f:Ma->Sem Ma} {g:Int->Int}
   (rule:∀(i:Int) (t:Tok) (s:Mb) (Q:Ma->Mb->Prop) (E:Ma->Mb->Prop),Q (.int (g i) s.toks) { s with toks:=s.toks+1 }->wpAny 0x5 X.A (f (.int i t)) Q E s) :
   pz X f (rU λi=>.int (g i)):=by
 intro pins s σ H x v Q I rx h;let#[i,rfl,q]:=h;let#[t,rfl]:=rx;exact rule i t s _ _ #[.int (g i),H,I.tok _,#[5],q]
def bP:pz X (unaryOp .USub) (rU λi=>.int (-i)):=unI λ_ _ _ _ _ q=>neg_int q
end
abbrev vH:V->V->Bool
 | .non,.non=>true | .non,.int _=>true | .int _,.non=>true | .non,.bl _=>true | .bl _,.non=>true | .non,.str _=>true | .str _,.non=>true
 | .int _,.int _=>true | .bl _,.bl _=>true | .str _,.str _=>true | .byt _,.byt _=>true
 | .int _,.str _=>true | .str _,.int _=>true | .bl _,.str _=>true | .str _,.bl _=>true
 | _,_=>false
abbrev rEq:R2:=λx y H Q=>vH x y=true/\Q (.bl (decide (x=y))) H
abbrev rNe:R2:=λx y H Q=>vH x y=true/\Q (.bl (!decide (x=y))) H
def xZ {i j:Int}:decide (V.int i=V.int j)=(i==j):=by rw[K8];simp
def vQ {i j:Bool}:decide (V.bl i=V.bl j)=(i==j):=by rw[K8];simp
def vK {i j:Str}:decide (V.str i=V.str j)=(i==j):=by rw[K8];simp
def ub {i j:Array UInt8}:decide (V.byt i=V.byt j)=(i.toList==j.toList):=by rw[K8];cases i;cases j;simp
section
variable {X:Cx} {a b c:Expr} {ta tb tc:TE} {pos:Pos}
def cF {Q:VK} {k k':Bool} (I:Inv X pins σ H s) (q:Q (.bl k) H) (e:k=k'):EP X pins σ Q (.bool k') s:=by subst e;show#[.bl k,H,I,rfl,q]
def ak:bU X (compareOp .Eq) rEq:=by
 intro pins s σ H x y v u Q I rx ry h;let#[hs,q]:=h;cases x with
 | non =>
   cases rx;cases y with
   | non=>cases ry; exact PySem.EqNone.eq_none_none (cF I q 0x6)
   | bl j=>cases ry; exact PySem.EqNone.eq_none_bool (cF I q 0x6)
   | int j=>let#[t',rfl]:=ry; exact PySem.EqNone.eq_none_int (cF I q 0x6)
   | str j=>let#[t',rfl]:=ry; exact PySem.EqNone.eq_none_str (cF I q 0x6)
   | _=>exact absurd (show false=true from hs) Je
 | bl i =>
   cases rx;cases y with
   | non=>cases ry; exact PySem.EqNone.eq_bool_none (cF I q 0x6)
   | bl j=>cases ry; exact eq_bool (cF I q vQ)
   | str j=>let#[t',rfl]:=ry; exact PySem.EqMixed.eq_bool_str (cF I q 0x6)
   | _=>exact absurd (show false=true from hs) Je
 | int i =>
   let#[t,rfl]:=rx;cases y with
   | non=>cases ry; exact PySem.EqNone.eq_int_none (cF I q 0x6)
   | int j=>let#[t',rfl]:=ry; exact eq_int (cF I q xZ)
   | str j=>let#[t',rfl]:=ry; exact PySem.EqMixed.eq_int_str (cF I q 0x6)
   | _=>exact absurd (show false=true from hs) Je
 | str i =>
   let#[t,rfl]:=rx;cases y with
   | non=>cases ry; exact PySem.EqNone.eq_str_none (cF I q 0x6)
   | bl j=>cases ry; exact PySem.EqMixed.eq_str_bool (cF I q 0x6)
   | int j=>let#[t',rfl]:=ry; exact PySem.EqMixed.eq_str_int (cF I q 0x6)
   | str j=>let#[t',rfl]:=ry; exact eq_str (cF I q vK)
   | _=>exact absurd (show false=true from hs) Je
 | byt i =>
   let#[t,rfl]:=rx;cases y with
   | byt j=>let#[t',rfl]:=ry; exact PySem.W.eq_bytes (cF I q ub)
   | _=>exact absurd (show false=true from hs) Je
 | _=>cases y <;> exact absurd (show false=true from hs) Je
def mB:bU X (compareOp .NotEq) rNe:=by
 intro pins s σ H x y v u Q I rx ry h;let#[hs,q]:=h;cases x with
 | non =>
   cases rx;cases y with
   | non=>cases ry; exact PySem.EqNone.ne_none_none (cF I q 0x6)
   | bl j=>cases ry; exact PySem.EqNone.ne_none_bool (cF I q 0x6)
   | int j=>let#[t',rfl]:=ry; exact PySem.EqNone.ne_none_int (cF I q 0x6)
   | str j=>let#[t',rfl]:=ry; exact PySem.EqNone.ne_none_str (cF I q 0x6)
   | _=>exact absurd (show false=true from hs) Je
 | bl i =>
   cases rx;cases y with
   | non=>cases ry; exact PySem.EqNone.ne_bool_none (cF I q 0x6)
   | bl j=>cases ry; exact ne_bool (cF I q (JW not vQ))
   | str j=>let#[t',rfl]:=ry; exact PySem.EqMixed.ne_bool_str (cF I q 0x6)
   | _=>exact absurd (show false=true from hs) Je
 | int i =>
   let#[t,rfl]:=rx;cases y with
   | non=>cases ry; exact PySem.EqNone.ne_int_none (cF I q 0x6)
   | int j=>let#[t',rfl]:=ry; exact ne_int (cF I q (JW not xZ))
   | str j=>let#[t',rfl]:=ry; exact PySem.EqMixed.ne_int_str (cF I q 0x6)
   | _=>exact absurd (show false=true from hs) Je
 | str i =>
   let#[t,rfl]:=rx;cases y with
   | non=>cases ry; exact PySem.EqNone.ne_str_none (cF I q 0x6)
   | bl j=>cases ry; exact PySem.EqMixed.ne_str_bool (cF I q 0x6)
   | int j=>let#[t',rfl]:=ry; exact PySem.EqMixed.ne_str_int (cF I q 0x6)
   | str j=>let#[t',rfl]:=ry; exact ne_str (cF I q (JW not vK))
   | _=>exact absurd (show false=true from hs) Je
 | byt i =>
   let#[t,rfl]:=rx;cases y with
   | byt j=>let#[t',rfl]:=ry; exact PySem.W.ne_bytes (cF I q (JW not ub))
   | _=>exact absurd (show false=true from hs) Je
 | _=>cases y <;> exact absurd (show false=true from hs) Je
def qh:bU X (compareOp .Lt) (gc λi j=>.bl (decide (i<j))):=xC λ_ _ _ _ _ _ _ q=>lt_int q
def j2:bU X (compareOp .Gt) (gc λi j=>.bl (decide (j<i))):=xC λ_ _ _ _ _ _ _ q=>gt_int q
def aN (b:Expr) (h:op≠.In:=by decide) (h2:op≠.NotIn:=by decide):behindInMarks op b=false:=by
 have e1:(op==CmpOp.In)=false:=by cases op <;> first|rfl|exact absurd rfl h
 have e2:(op==CmpOp.NotIn)=false:=by cases op <;> first|rfl|exact absurd rfl h2
 cases b <;> simp [behindInMarks,e1,e2]
def cW {r:R2} (ho:bU X (compareOp op) r) (ha:PE X a ta) (hb:PE X b tb) (hm:behindInMarks op b=false):PE X (.Compare a [op] [b] pos) (gq r ta tb):=by intro pins s σ H Q I h;exact wpAny_Compare1 (pA ha hb I h λv u s2 x y H2 I2 rx ry q=>ho pins s2 σ H2 x y v u Q I2 rx ry q) hm
abbrev Af (t:TE):TT:=λσ H Q=>t σ H λx H'=>∃k,x=.bl k/\Q k H'
def lq {r:R2} (ho:bU X (compareOp op) r) (ha:PE X a ta) (hb:PE X b tb) (hm:behindInMarks op b=false):PT X (.Compare a [op] [b] pos) (Af (gq r ta tb)):=by
 intro pins s σ H Q I h;refine LY (al (ha pins s σ H _ I h) λv s1 ⟨x,H1,I1,r1,q1⟩=>al (hb pins s1 σ H1 _ I1 q1) λu s2 ⟨y,H2,I2,r2,q2⟩ =>
   al (ho pins s2 σ H2 x y v u _ I2 r1 r2 q2) λc s3 ⟨z,H3,I3,r3,k,e,q3⟩=>?_) hm
 subst e;cases r3;exact KY #[H3,I3,q3]
abbrev qb (K:Md) (x:V) (H:Hp) (k:Bool):Prop :=
 match x with
 | .non=>k=false
 | .bl b=>k=b
 | .int i=>k=(i != 0)
 | .str y=>y.length<=sizeLine/\k=((y.length:Int) != 0)
 | .byt y=>y.size<=sizeLine/\k=((y.size:Int) != 0)
 | .ref p=>(∃xs,aE K H p xs/\k=!xs.isEmpty)\/(∃xs,aD K H p xs/\k=!xs.isEmpty)\/∃kvs,H p=⇑(.dK kvs)/\k=!kvs.isEmpty
 | _=>False
def GS {κ:Type} {kvs:List (κ×V)} {vs:List (κ×Ma)} (r:KV kvs vs):(!vs.isEmpty)=!kvs.isEmpty:=by cases r <;> rfl
def uB {xs:List V} {its:List Ma} (r:ao xs its):(!its.toArray.isEmpty)=!xs.isEmpty:=by cases r <;> simp
def jz:(sizeLine:Nat)<2 ^ 63:=by rw[sizeLine_eq]; decide
def CU:HI X (λx H Q=>∃k,qb X.K x H k/\Q k H):=by
 intro pins s σ H x v Q I rx h;let#[k,e,q]:=h;have hl:=jz;have hs:sizeLine=16777216:=sizeLine_eq;cases x with
 | non =>
   cases rx;have e':k=false:=e;subst e';exact truthy_none #[H,I,q]
 | bl b =>
   cases rx;have e':k=b:=e;subst e';exact KY #[H,I,q]
 | int i =>
   let#[t,rfl]:=rx;have e':k=(i != 0):=e;subst e';exact PySem.P.truthy_int #[H,I,q]
 | str y =>
   let#[t,rfl]:=rx;obtain⟨hy,e'⟩:y.length<=sizeLine/\k=((y.length:Int) != 0):=e;subst e';exact PySem.P.truthy_str ∅ #[H,I.tok _,q]
 | byt y =>
   let#[t,rfl]:=rx;obtain⟨hy,e'⟩:y.size<=sizeLine/\k=((y.size:Int) != 0):=e;subst e';exact PySem.W.truthy_bytes ∅ #[H,I.tok _,q]
 | ref p =>
   cases rx;have e':(∃xs,aE X.K H p xs/\k=!xs.isEmpty)\/(∃xs,aD X.K H p xs/\k=!xs.isEmpty)\/∃kvs,H p=⇑(.dK kvs)/\k=!kvs.isEmpty:=e;rcases e' with⟨xs,hx,e'⟩|⟨xs,hx,e'⟩|⟨kvs,hx,e'⟩
   . subst e';let#[its,r,pl,hz]:=I.list hx;have hlen:=r.length;exact wpAny_truthy_list pl.isList (by simp only[Ja]; lia) #[H,I.tok _,by rw[uB r]; exact q]
   . subst e';let#[its,r,pl,hz]:=I.tuple hx;have hlen:=r.length;exact truthy_tuple pl (by simp only[Ja]; lia) #[H,I.tok _,by rw[uB r]; exact q]
   . subst e';obtain⟨hz,hS,vs,r,m⟩:kvs.length<=sizeLine/\(p==sysModules)=false/\∃vs,KV kvs vs/\s.heap.DictOf (cN X.prog X.w) p vs:=I.hok p _ hx;have hlen:kvs.length=vs.length:=Paired.length r;exact wpAny_truthy_dict hS m ∅ #[H,I.tok _,by rw[GS r]; exact q]
 | _=>exact(show False from e).elim
def E1 (ha:PE X a ta) (he:∀whole,isTrue a X.env whole=(do let v <- whole; standAt a.pos; holding [v] (truthy v))) :
   PT X a (λσ H Q=>ta σ H λx H'=>∃k,qb X.K x H' k/\Q k H'):=by
 intro pins s σ H Q I h;exact isTrue_plain (al (ha pins s σ H _ I h) λv s1 z59_=>by let#[x,H1,I1,r1,q1]:=z59_; exact CU pins s1 σ H1 x v Q I1 r1 q1) (he _)
def qr:bU X (binaryOp .Add) (λx y H Q=>∃i j,x=.str i/\y=.str j/\i.length+j.length<=sizeLine/\Q (.str (i++j)) H):=by intro pins s σ H x y v u Q I rx ry h;let#[i,j,rfl,rfl,hz,q]:=h;let#[t,rfl]:=rx;let#[t',rfl]:=ry;exact add_str (λt' tk=>#[.str (i++j),H,I.tok _,#[5],q]) hz
def i9 {x:V} (r:ao [x] us):∃u,us=[u]/\bC x u:=by
 cases r with
 | cons r1 r2=>cases r2; show#[5,r1]
def Bs {x y:V} (r:ao [x,y] us):∃u w',us=[u,w']/\bC x u/\bC y w':=by
 cases r with
 | cons r1 r2 =>
   cases r2 with
   | cons r3 r4=>cases r4; show#[9,r1,r3]
def gz:bX X (.type "int") (λxs H Q=>(∃i,xs=[.int i]/\Q (.int i) H)\/∃k,xs=[.bl k]/\Q (.int (if k then 1 else 0)) H):=by
 intro pins s σ H xs us Q I r h;rcases h with⟨i,rfl,q⟩|⟨k,rfl,q⟩
 . let#[u,rfl,t,rfl]:=i9 r;exact call_int_int #[.int i,H,I,#[5],q]
 . let#[u,rfl,r1]:=i9 r;cases r1;exact call_int_bool #[.int (if k then 1 else 0),H,I.tok _,#[5],q]
end
structure ObjM (h:Heap) (x dx C:Addr) (mA:Str->Option Value):Prop where
 obj:h.get? x=⇑(PySem.W.instObj C dx)
 ns:h.Ns1 dx mA
 ne:dx≠x
def Co {dx:Mc} {mA:Str->JK Ma} (n:h.Ns1 dx mA):∃od,h.get? dx=⇑od/\∀name,PySem.W.lookIn name od=⇑(mA name):=by
 let#[o,es,ep,ho,hd,hk,_,hm]:=n;show#[o,ho,λname=>?_];have e:=hm name;unfold nsFind findBy at e;rw[<- Array.find?_toList] at e;unfold PySem.W.lookIn;rw[hd];dsimp only;split
 . rename_i y q
   rw[q] at e;exact JW some e
 . rename_i q
   rw[q] at e;have a:es.toList.any (·.refKey)=false:=by rw[List.any_eq_false];intro y hy;let#[z,t,hkey]:=hk y (Array.mem_toList_iff.mp hy);simp [DictEntry.refKey,hkey]
   have a':¬ es.toList.any (·.refKey)=true:=by rw[a]; exact Je
   rw[JI a'];exact JW some e
variable {C:Mc}
def ObjM.look {x dx:Mc}{mA:Str->JK Ma} (I:ObjM h x dx C mA):∃od,PySem.W.InstAt h x (PySem.W.instObj C dx) C ⇑od/\∀name,PySem.W.lookIn name od=⇑(mA name) :=
 let ⟨od,ho,hl⟩:=Co I.ns
 #[od,#[I.obj,7,ho],hl]
variable {pl:Sem Bool}
section
variable {prog:Program} {w:World} {A:Around} {E:Ma->Mb->Prop} {s:Mb} {K:Md} {x dx C f:Mc} {mA:Str->JK Ma} {name:Str} {v:Ma}
def Fo {expr:Bool} {Q:Ma->Mb->Prop} (X:K.In s.heap) (I:ObjM s.heap x dx C mA) (hg:PySem.W.plainGet K C name=true) (hh:PySem.W.hasDictIn K C=true)
   (ha:PySem.W.findIn K ↥C name=⇑none) (hv:mA name=⇑v) (hv':PySem.W.handedIn v=true) (h:Q v { s with toks:=s.toks+1 }) :
   wpAny 0x9 A (getAttr ↥x name expr) Q E s:=by
 let#[od,J,hl]:=I.look;exact PySem.W.get_value X J (PySem.W.plainGet_of hg).1 (PySem.W.findObj_own hh ha rfl (by rw[hl,hv])) hv' h
def Fz {Q:Ma×List Ma->Mb->Prop} (X:K.In s.heap) (I:ObjM s.heap x dx C mA) (hg:PySem.W.plainGet K C name=true)
   (hf:PySem.W.findIn K ↥C name=⇑⇑↥f) (ht:PySem.W.isFn K ↥f=true) (hv:mA name=none) (h:Q (↥f,[↥x]) s) :
   wpAny 0x9 A (getMethod ↥x name pl) Q E s:=by
 let#[od,J,hl]:=I.look;exact PySem.W.method_fn X J (PySem.W.plainGet_of hg).1 (PySem.W.plainGet_of hg).2 hf (beq_iff_eq.mp ht) (by show(PySem.W.lookIn name od).map (·.isSome)=⇑false; rw[hl,hv]; rfl) h
def IU {ns:List Str} {Q:Unit->Mb->Prop} (X:K.In s.heap) (I:ObjM s.heap x dx C mA)
   (hs:PySem.W.findIn K ↥C "__setattr__"=⇑⇑(.builtin "object.__setattr__")) (hp:PySem.W.plainOver K C=true) (ht:PySem.W.takerIn K C name=⇑none) (hh:PySem.W.hasDictIn K C=true)
   (hw:PySem.Within mA ns) (hsz:ns.length<=sizeLine)
   (h:∀h',ObjM h' x dx C (λy=>if y=name then ⇑v else mA y)->Heap.SameBut dx s.heap h'->Q () { s with heap:=h',toks:=s.toks+2 }) :
   wpAny 0x9 A (setAttr ↥x name v) Q E s:=by
 let#[od,J,hl]:=I.look;refine PySem.W.set_plain X J hs (PySem.W.osa_open (s:={ s with toks:=s.toks+1 }) (r:=none) X J hp ht λb=>?_);let#[cd,hc,hd']:=PySem.W.any_some hh;have hx:s.heap.get? x=some ⟨↥C,⇑dx,.plain,0xA⟩:=I.obj;refine JD (JQ (JD (JD (wpAny_loadPart hx (JD (PySem.W.Looks.here (s:={ s with toks:=s.toks+1 }) (PySem.W.looks_clsIn X hc) ?_))))));rw[hd'];refine JQ (a:=⇑dx) (JD (JQ (JD ?_)));refine wpAny_nsSet1 (s:={ s with toks:=s.toks+1 }) I.ns λh' hn2 hs2=>?_;let#[oD,esD,epD,hoD,hdD,hcD]:=hn2.count (PySem.Within.cons name v hw);refine JD (wpAny_lookBehind hoD (by rw[hdD]; exact pastItsLine_dict (Jj hcD (by rw[Jo]; lia))) ?_);exact JQ (h _ #[(hs2.2 _ (Ne.symm I.ne))\I.obj,hn2,I.ne] hs2)
def FP {R:Result->Mb->Prop} {vs:List Ma} {kw:List (Str×Ma)} (X:K.In s.heap) (hm:PySem.W.makesIn K C=true)
   (hi:PySem.W.findIn K ↥C "__init__"=⇑⇑↥f) (hf:PySem.W.typeIn K ↥f=⇑(.type "function"))
   (h:codeAny 0x9 (A.under (.builtin "type.__call__" #[↥C::vs,kw])) (.call ↥f #[↥(s.heap.objs.size+1)::vs,kw]) (PySem.W.InitBack (s.heap.objs.size+1) R)
     { s with heap:=(s.heap.push PySem.W.emptyDict).push (PySem.W.instObj C s.heap.objs.size) }) :
   codeAny 0x9 A (.call ↥C #[vs,kw]) R s:=by
 let#[hh,g,d,t,os]:=s;exact PySem.W.make_core (PySem.W.makes_of X hm) (PySem.W.looks_findIn X hi) (λself=>PySem.W.bind_fn X self hf) (.inl rfl) h
end
abbrev aQ (f:Str) (v:V):List (Str×V)->List (Str×V)
 | []=>[(f,v)]
 | (g,x)::r=>if g=f then(g,v)::r else(g,x)::aQ f v r
def cg (f g:Str) (v:V):∀fs:List (Str×V),(aQ f v fs).lookup g=if g=f then ⇑v else fs.lookup g
 | []=>by
   show List.lookup g [(f,v)]=_;by_cases h:g=f
   . have hb:(g==f)=true:=beq_iff_eq.mpr h;simp only[List.lookup,hb,JR h]
   . have hb:(g==f)=false:=beq_eq_false_iff_ne.mpr h;simp only[List.lookup,hb,JI h]
 | (k,x)::r=>by
   have ih:=cg f g v r;rw[show aQ f v ((k,x)::r)=(if k=f then(k,v)::r else(k,x)::aQ f v r) from rfl];by_cases hk:k=f
   . rw[JR hk];by_cases h:g=k
     . have hb:(g==k)=true:=beq_iff_eq.mpr h;simp only[List.lookup,hb,JR (h\hk)]
     . have hb:(g==k)=false:=beq_eq_false_iff_ne.mpr h;simp only[List.lookup,hb,JI (λe:g=f=>h (e\hk.symm))]
   . rw[JI hk];by_cases h:g=k
     . have hb:(g==k)=true:=beq_iff_eq.mpr h;simp only[List.lookup,hb,JI (λe:g=f=>hk (h.symm\e))]
     . have hb:(g==k)=false:=beq_eq_false_iff_ne.mpr h;simp only[List.lookup,hb];exact ih
def ph (f:Str) (v:V):∀fs:List (Str×V),f∈(aQ f v fs).map (·.1)/\∀g,g∈fs.map (·.1)->g∈(aQ f v fs).map (·.1)
 | []=>#[by simp [aQ],λg h=>by simp at h]
 | (k,x)::r=>by
   let#[i1,i2]:=ph f v r;rw[show aQ f v ((k,x)::r)=(if k=f then(k,v)::r else(k,x)::aQ f v r) from rfl];by_cases hk:k=f
   . rw[JR hk];subst hk;show#[by simp,λg h=>by simpa using h]
   . rw[JI hk];show#[?_,λg h=>?_]
     . rw[Jd];exact JY _ i1
     . rw[Jd] at h ⊢;rcases JT.mp h with e|e
       . exact JT.mpr (.inl e)
       . exact JY _ (i2 g e)
def sf (f:Str) (v:V):∀fs:List (Str×V),(aQ f v fs).length<=fs.length+1
 | []=>by simp [aQ]
 | (k,x)::r=>by
   have ih:=sf f v r;rw[show aQ f v ((k,x)::r)=(if k=f then(k,v)::r else(k,x)::aQ f v r) from rfl];by_cases hk:k=f
   . rw[JR hk,Jo,Jo]; lia
   . rw[JI hk,Jo,Jo]; lia
def dQ.some_of {o:JK Ma} (r:dQ ⇑v o):∃u,o=⇑u/\bC v u:=by
 cases o with
 | none=>exact(show False from r).elim
 | some u=>show#[u,rfl,r]
def dQ.none_of {o:JK Ma} (r:dQ none o):o=none:=by
 cases o with
 | none=>rfl
 | some u=>exact(show False from r).elim
def Ha (r:bC v u):PySem.W.handedIn u=true:=by
 cases v with
 | non=>cases (show u=Value.none from r); rfl
 | bl b=>cases (show u=Value.bool b from r); rfl
 | int i=>let#[t,e]:=(show ∃t,u=Value.int i t from r); cases e; rfl
 | str x=>let#[t,e]:=(show ∃t,u=Value.str x t from r); cases e; rfl
 | byt b=>let#[t,e]:=(show ∃t,u=Value.bytes b t from r); cases e; rfl
 | flt b=>let#[t,e]:=(show ∃t,u=Value.float b t from r); cases e; rfl
 | ref a=>cases (show u=Value.ref a from r); rfl
 | ty n=>cases (show u=Value.type n from r); rfl
section
variable {P:Program} {w:World} {H H':Hp} {h h':Heap} {a C dx:Mc} {fs fs':List (Str×V)}
def mY (hok:cC P w H h) (e:H a=⇑(.ins C dx fs)):∃mA,ObjM h a dx C mA/\(∀f,dQ (fs.lookup f) (mA f))/\PySem.Within mA (fs.map (·.1))/\fs.length<=1000/\H dx=⇑(.own a):=by
 let#[d,z,ne,ob,mA,n,r,q]:=(show cJ P w H h a (.ins C dx fs) from hok a _ e)
 show#[mA,#[ob,n,ne],r,q,z,d]
end
structure Cls (K:W.Frag) (C:Addr):Prop where
 pg:PySem.W.plainGet K C Str.empty=true
 hd:PySem.W.hasDictIn K C=true
 po:PySem.W.plainOver K C=true
 sa:PySem.W.findIn K ↥C "__setattr__"=⇑⇑(.builtin "object.__setattr__")
def Cls.get {K:Md} {C:Mc} (c:Cls K C) (f:Str):PySem.W.plainGet K C f=true:=c.pg
abbrev d7 (K:Md) (C:Mc) (f:Str):Prop:=PySem.W.findIn K ↥C f=⇑none
def d7.taker {f:Str} (n:d7 K C f):PySem.W.takerIn K C f=⇑none:=by unfold PySem.W.takerIn;rw[show PySem.W.findIn K ↥C f=⇑none from n];rfl
structure Meth (K:W.Frag) (C:Addr) (m:Str) (f:Addr):Prop where
 at_:PySem.W.findIn K ↥C m=⇑⇑↥f
 fn:PySem.W.isFn K ↥f=true
 kp:PySem.W.keepIn K ↥f=true
section
variable {X:Cx} {pins:List (Mc×Obj)} {σ:St} {H:Hp} {s:Mb} {a C dx:Mc} {fs:List (Str×V)} {f:Str} {v:V} {A:Around} {E:Ma->Mb->Prop}
def Iw {b:Bool} {Q:Ma->Mb->Prop} (I:Inv X pins σ H s) (e:H a=⇑(.ins C dx fs)) (c:Cls X.K C) (n:d7 X.K C f) (l:fs.lookup f=⇑v)
   (h:∀u s',Inv X pins σ H s'->bC v u->Q u s'):wpAny 0x5 A (getAttr ↥a f b) Q E s:=by
 let#[mA,O,r,_,_,_]:=mY I.hok e;let#[u,hu,ru]:=dQ.some_of (v:=v) (o:=mA f) (by rw[<- l]; exact r f);exact Fo I.kIn O (c.get f) c.hd n hu (Ha ru) (h u _ (I.tok _) ru)
def w9 {m:Str} {g:Mc} {Q:Ma×List Ma->Mb->Prop} (I:Inv X pins σ H s) (e:H a=⇑(.ins C dx fs)) (c:Cls X.K C) (k:Meth X.K C m g) (l:fs.lookup m=none)
   (h:Q (↥g,[↥a]) s):wpAny 0x5 A (getMethod ↥a m pl) Q E s:=by
 let#[mA,O,r,_,_,_]:=mY I.hok e;have hn:mA m=none:=dQ.none_of (by rw[<- l]; exact r m);exact Fz I.kIn O (c.get m) k.at_ k.fn hn h
def Dc {y:V} {Q:Unit->Mb->Prop} (I:Inv X pins σ H s) (e:H a=⇑(.ins C dx fs)) (c:Cls X.K C) (n:d7 X.K C f) (hl:fs.length<1000) (ry:bC y u)
   (h:∀s',Inv X pins σ (upd H a (.ins C dx (aQ f y fs))) s'->Q () s'):wpAny 0x5 A (setAttr ↥a f u) Q E s:=by
 let#[mA,O,r,wi,_,ho]:=mY I.hok e;have hz:(fs.map (·.1)).length<=sizeLine:=by rw[JE,sizeLine_eq]; lia
 refine IU I.kIn O c.sa c.po n.taker c.hd wi hz λh' O' sb=>h _ ?_;have hd:∃o,h'.get? dx=⇑o:=by let#[o,_,_,e',_]:=O'.ns; show#[o,e']
 refine I.write (x:=a) (e:=dx) (by rw[e]; exact True.intro) (.inr ho) (λb q hb z=>(sb.2 b hb)\z) hd ?_;show#[by rw[am O.ne]; exact ho,?_,O.ne,O'.obj,_,O'.ns,λg=>?_,λg hg=>?_]
 . have:=sf f y fs; lia
 . show dQ ((aQ f y fs).lookup g) (if g=f then ⇑u else mA g);rw[cg];by_cases q:g=f
   . rw[JR q,JR q]; exact ry
   . rw[JI q,JI q]; exact r g
 . by_cases q:g=f
   . rw[q]; exact(ph f y fs).1
   . refine(ph f y fs).2 g (wi g λz=>hg ?_);show(if g=f then ⇑u else mA g)=none;rw[JI q]; exact z
def Inv.made (I:Inv X pins σ H s):Inv X pins σ (upd (upd H s.heap.objs.size (.own (s.heap.objs.size+1))) (s.heap.objs.size+1) (.ins C s.heap.objs.size []))
   { s with heap:=(s.heap.push PySem.W.emptyDict).push (PySem.W.instObj C s.heap.objs.size) }:=by
 have e1:(s.heap.push PySem.W.emptyDict).get? s.heap.objs.size=⇑PySem.W.emptyDict:=Jb s.heap rfl;have e2:((s.heap.push PySem.W.emptyDict).push (PySem.W.instObj C s.heap.objs.size)).get? (s.heap.objs.size+1)=⇑(PySem.W.instObj C s.heap.objs.size):=by have:=Jb (s.heap.push PySem.W.emptyDict) (o:=PySem.W.instObj C s.heap.objs.size) rfl;rwa [Kd] at this
 have e3:(s.heap.push PySem.W.emptyDict).Ns s.heap.objs.size (λ_=>none):=#[PySem.W.emptyDict,0xA,_,e1,rfl,(λe he=>absurd he 0x6),λ_=>rfl]
 have I1:=I.laid (a:=s.heap.objs.size) (o:=.own (s.heap.objs.size+1)) (h':=s.heap.push PySem.W.emptyDict) (t':=s.toks) (λb u q=>JJ _ q) (JN _) #[_,e1];refine I1.laid (a:=s.heap.objs.size+1) (o:=.ins C s.heap.objs.size []) (t':=s.toks) (λb u q=>JJ _ q) (Nat.le_of_eq (Kd _ _)) ?_;have ne:s.heap.objs.size≠s.heap.objs.size+1:=Js (MB _);show#[by rw[am ne,aG],Jm _,ne,e2,λ_=>none,(Heap.Ns1.of_empty e3).at λo q=>JJ _ q,λ_=>True.intro,λy hy=>absurd rfl hy]
def E' {prog:Program} {env:Env} {e:Expr} {f:Str} {Q:Ma->Mb->Prop} (hb:attributeBase e f env (eval e env)=eval e env)
   (h:wpAny 0x9 A (eval e env) (λo s₁=>wpAny 0x9 A (getAttr o f true) Q E s₁) E s):wpAny 0x9 A (eval (.Attribute e f pos) env) Q E s :=
 Attribute_any_ h (by rw[arm_eval_Attribute,hb])
end
abbrev qU (K:Md) (ta:TE) (f:Str):TE:=λσ H Q=>ta σ H λx H1=>∃a C dx fs v,x=↥a/\H1 a=⇑(.ins C dx fs)/\Cls K C/\d7 K C f/\fs.lookup f=⇑v/\Q v H1
abbrev Dx (K:Md) (ta tv:TE) (f:Str):TS:=λD σ H=>tv σ H λy H1=>ta σ H1 λx H2=>∃a C dx fs,x=↥a/\H2 a=⇑(.ins C dx fs)/\Cls K C/\d7 K C f/\fs.length<1000 /\
 D.nx σ (upd H2 a (.ins C dx (aQ f y fs)))
section
variable {X:Cx} {o e value:Expr} {f:Str} {pos pos' tpos:Pos} {ta tv:TE}
def CA (he:PE X e ta) (hb:attributeBase e f X.env (eval e X.env)=eval e X.env):PE X (.Attribute e f pos) (qU X.K ta f):=by intro pins s σ H Q I h;refine E' hb (al (he pins s σ H _ I h) λu s1 z60_=>?_);let#[x,H1,I1,rx,a,C,dx,fs,v,ex,ea,c,n,l,q]:=z60_;subst ex;obtain rfl:u=Value.ref a:=rx;exact Iw I1 ea c n l λu' s2 I2 ru=>#[v,H1,I2,ru,q]
def dw (ha:PE X o ta) (hv:PE X value tv) (hs:swapsWith value ⇑(.Attribute o f pos') pos.line X.env=pure false):PS X (.Assign [.Attribute o f pos'] value pos) (Dx X.K ta tv f):=by intro pins s σ H D I h;refine plainObj_wpAny_Assign_Attribute (al (hv pins s σ H _ I h) λu s1 z62_=>z62_.e λy H1 I1 ry q=>al (ha pins s1 σ H1 _ I1 q) λov s2 z63_=>?_) hs;let#[x,H2,I2,rx,a,C,dx,fs,ex,ea,c,n,l,q2]:=z63_;subst ex;obtain rfl:ov=Value.ref a:=rx;exact Dc I2 ea c n l ry λs3 I3=>#[σ,_,I3,q2]
end
section
variable {X:Cx} {pins:List (Mc×Obj)} {σ:St} {H:Hp} {s:Mb} {A:Around} {E:Ma->Mb->Prop} {Q:Ma->Mb->Prop} {c:Ma} {b:Bool}
inductive TyOf (K:W.Frag) (H:Hp):V->Value->Prop where
 | non:TyOf K H .non (.type "NoneType")
 | bl (x:Bool):TyOf K H (.bl x) (.type "bool")
 | int (i:Int):TyOf K H (.int i) (.type "int")
 | str (x:Str):TyOf K H (.str x) (.type "str")
 | flt (x:UInt64):TyOf K H (.flt x) (.type "float")
 | lst {a:Addr} {xs:List V} (e:H a=⇑(.lst xs)):TyOf K H ↥a (.type "list")
 | frz {a:Addr} {o:Obj} {xs:List V} (e:H a=⇑(.frz o (.lst xs))):TyOf K H ↥a (.type "list")
 | tup {a:Addr} {xs:List V} (e:H a=⇑(.tup xs)):TyOf K H ↥a (.type "tuple")
 | dK {a:Addr} {kvs:List (aI×V)} (e:H a=⇑(.dK kvs)):TyOf K H ↥a (.type "dict")
 | dT {a:Addr} {kvs:List (List aI×V)} (e:H a=⇑(.dT kvs)):TyOf K H ↥a (.type "dict")
 | ins {a C dx:Addr} {fs:List (Str×V)} (e:H a=⇑(.ins C dx fs)) (cl:Cls K C) (ha:PySem.W.findIn K ↥C "__class__"=⇑⇑(.builtin "object.__class__"))
     (hn:PySem.W.specialIn K (.builtin "object.__class__") "__get__"=⇑⇑(.builtin "getset_descriptor.__get__")) (htk:PySem.W.takesIn K (.builtin "object.__class__")=⇑true)
     (hm:PySem.W.mroIn K C (.type "object")=⇑true):TyOf K H ↥a ↥C
def GN {x:V} {t:Ma}(I:Inv X pins σ H s) (rx:bC x u) (ty:TyOf X.K H x t) (e:PySem.W.kitOne X.K t c=⇑b) (h:∀tk,Q (.bool b) { s with toks:=tk }) :
   wpAny 0x5 A (call (.builtin "isinstance") [u,c]) Q E s:=by
 cases ty with
 | non=>cases (show u=Value.none from rx); exact PySem.W.kia_one PySem.W.kitx_none I.kIn True.intro e (λz=>nomatch z) h
 | bl y=>cases (show u=Value.bool y from rx); exact PySem.W.kia_one PySem.W.kitx_bool I.kIn True.intro e (λz=>nomatch z) h
 | int i=>let#[t,q]:=(show ∃t,u=Value.int i t from rx); cases q; exact PySem.W.kia_one PySem.W.kitx_int I.kIn True.intro e (λz=>nomatch z) h
 | str y=>let#[t,q]:=(show ∃t,u=Value.str y t from rx); cases q; exact PySem.W.kia_one PySem.W.kitx_str I.kIn True.intro e (λz=>nomatch z) h
 | flt y=>let#[t,q]:=(show ∃t,u=Value.float y t from rx); cases q; exact PySem.W.kia_one PySem.W.kitx_float I.kIn True.intro e (λz=>nomatch z) h
 | @lst a xs ea =>
   cases (show u=Value.ref a from rx);let#[_,_,n,_,h1]:=(show cJ X.prog X.w H s.heap a (.lst xs) from I.hok a _ ea)
   exact PySem.W.kia_one PySem.W.kitx_list I.kIn #[_,h1,rfl] e (λz=>nomatch z) h
 | @frz a ob xs ea =>
   cases (show u=Value.ref a from rx);let#[_,_,_,n,_,h1]:=(show cJ X.prog X.w H s.heap a (.frz ob (.lst xs)) from I.hok a _ ea)
   exact PySem.W.kia_one PySem.W.kitx_list I.kIn #[_,h1,rfl] e (λz=>nomatch z) h
 | @tup a xs ea =>
   cases (show u=Value.ref a from rx);let#[_,_,_,p]:=(show cJ X.prog X.w H s.heap a (.tup xs) from I.hok a _ ea)
   let#[o,h1,h2,_]:=p;exact PySem.W.kia_one PySem.W.kitx_tuple I.kIn #[o,h1,h2] e (λz=>nomatch z) h
 | @dK a kvs ea =>
   cases (show u=Value.ref a from rx);let#[_,_,vs,_,p]:=(show cJ X.prog X.w H s.heap a (.dK kvs) from I.hok a _ ea)
   let#[o,es,ep,h1,h2,_]:=p;exact PySem.W.kia_one PySem.W.kitx_dict I.kIn #[o,h1,h2.1] e (λz=>nomatch z) h
 | @dT a kvs ea =>
   cases (show u=Value.ref a from rx);let#[_,_,xs,_,o,es,ep,h1,h2,_]:=(show cJ X.prog X.w H s.heap a (.dT kvs) from I.hok a _ ea)
   exact PySem.W.kia_one PySem.W.kitx_dict I.kIn #[o,h1,h2.1] e (λz=>nomatch z) h
 | @ins a C dx fs ea cl ha hn htk hm =>
   cases (show u=Value.ref a from rx);let#[mA,O,_]:=mY I.hok ea;let#[od,J,_]:=O.look;exact PySem.W.kia_one (PySem.W.kitx_own (cl.get _) cl.hd ha hn htk hm) I.kIn J e (λz=>nomatch z) h
end
structure Room (k:Nat) (A:Around):Prop where
 hd:A.handled=none
 dp:A.depth+3 * k+5<recursionLimit
 un:A.units+16 * k+200<cLine
def Room.mono {j k:Nat} (r:Room k A) (h:j<=k):Room j A:=#[r.hd,by have:=r.dp; lia,by have:=r.un; lia]
def Room.deeper {k:Nat} (r:Room (k+1) A) (env:Env):Room k (A.deeper env) :=
 #[r.hd,by have:=r.dp; show A.depth+1+3 * k+5<_; lia,by have:=r.un; show A.units+3+16 * k+200<_; lia]
def IP {kw:List (Str×Ma)}:(A.under (.builtin "type.__call__" #[↥C::us,kw])).depth=A.depth+1:=by
 first|rfl|simp [Around.under,Code.weight,Code.isCreation,Code.isGuard,Code.isCaller,Code.frames,Code.isFrame,guardIds]
def HY {kw:List (Str×Ma)}:(A.under (.builtin "type.__call__" #[↥C::us,kw])).units=A.units+1:=by
 first|rfl|simp [Around.under,Code.cUnits,Code.frames,Code.isFrame]
def Room.make {k:Nat} (r:Room (k+1) A) (C:Mc) (us:List Ma) (kw:List (Str×Ma)):Room k (A.under (.builtin "type.__call__" #[↥C::us,kw])) :=
 #[r.hd,by have:=r.dp; rw[IP]; lia,by have:=r.un; rw[HY]; lia]
def Room.depth {k:Nat} (r:Room k A):A.depth<recursionLimit:=by have:=r.dp; lia
def Room.units {k:Nat} (r:Room k A):A.units+64<cLine:=by have:=r.un; lia
abbrev nX:TA:=λ_ H Q=>Q [] H
abbrev kI (ta:TE) (tr:TA):TA:=λσ H Q=>ta σ H λx H1=>tr σ H1 λxs H2=>Q (x::xs) H2
section
variable {X:Cx} {e:Expr} {es:List Expr} {te:TE} {t:TA} {pos:Pos}
def aC:PA X [] nX:=λ_ _ _ _ H Q I h=>Calls.spliced_nil #[[],H,I,.nil,h]
def aP (ha:PE X e te) (hr:PA X es t) (hs:starEach (e::es) X.env=(false,eval e X.env)::starEach es X.env:=by rfl):PA X (e::es) (kI te t):=by intro pos pins s σ H Q I h;rw[hs];show wpAny _ _ (spliced ((false,eval e X.env)::backTo pos (starEach es X.env))) _ _ s;refine Calls.spliced_cons (al (ha pins s σ H _ I h) λu s1 z68_=>?_);let#[x,H1,I1,r1,q1]:=z68_;exact al (hr pos pins s1 σ H1 _ I1 q1) λus s2 z69_=>by let#[xs,H2,I2,r2,q2]:=z69_; show#[x::xs,H2,I2,.cons r1 r2,q2]
def aB {e:Expr} {es:List Expr} {t:TA} (ha:PE X e te) (hr:PA X es t) (hs:starEach (e::es) X.env=(false,eval e X.env)::starEach es X.env):PA X (e::es) (kI te t):=aP ha hr hs
abbrev uN (t:TA):TE:=λσ H Q=>t σ H λxs H1=>xs.length<=sizeLine/\∀p,H1 p=none->Q ↥p (upd H1 p (.tup xs))
abbrev tf (t:TA):TE:=λσ H Q=>t σ H λxs H1=>xs.length<=sizeLine/\∀p,H1 p=none->Q ↥p (upd H1 p (.lst xs))
def aj {x1} (h:PA X es t):PE X (.Tuple es x1 pos) (uN t):=by intro pins s σ H Q I hq;refine wpAny_Tuple_spliced (al (h pos pins s σ H _ I hq) λus s1 ⟨xs,H1,I1,r,z,q⟩=>#[by rw[<- r.length]; exact z,?_]);have hf:H1 s1.heap.objs.size=none:=I1.hok.fresh (JN _);show#[↥s1.heap.objs.size,upd H1 s1.heap.objs.size (.tup xs),I1.laid (t':=s1.toks) (λb u e=>JJ _ e) (JN _) ?_,rfl,q _ hf];show#[z,us,r,#[_,Jb _ rfl,13]]
def bQ (h:PA X es t):PE X (.List es pos) (tf t):=by intro pins s σ H Q I hq;refine wpAny_List_spliced (al (h pos pins s σ H _ I hq) λus s1 ⟨xs,H1,I1,r,z,q⟩=>#[by rw[<- r.length]; exact z,?_]);have hf:H1 s1.heap.objs.size=none:=I1.hok.fresh (JN _);show#[↥s1.heap.objs.size,upd H1 s1.heap.objs.size (.lst xs),I1.laid (t':=s1.toks) (λb u e=>JJ _ e) (JN _) ?_,rfl,q _ hf];show#[z,us,(0),r,Jb _ rfl]
end
noncomputable abbrev Sp:=List V->Hp->VK->XK->Prop
noncomputable abbrev fj:=List Env->Hp->Mb->XK->Ma->Mb->Prop
structure Env0 (P:Program) (w:World) (K:W.Frag) (mg:Str->Option Value) (base:Heap) (A:Around) (outer:List Env) (s:Shared) (H:Hp):Prop where
 frames:A.frames=⇑outer
 mod:Mod K mg base
 bs:∀b o,base.get? b=⇑o->s.heap.get? b=⇑o/\H b=none
 bsz:base.objs.size<=s.heap.objs.size
 funs:s.heap.FunFrames base outer
 frf:∀b∈g9 outer,H b=none
 hok:cC P w H s.heap
 bare:AllBare s.gens
abbrev CE (outer:List Env) (P:Program) (w:World) (H:Hp) (s:Mb) (Q:VK) (u:Ma) (s':Mb):Prop :=
 ∃v H',s'.os=s.os/\AllBare s'.gens/\Un (g9 outer) [] H H' s.heap s'.heap/\cC P w H' s'.heap/\bC v u/\Q v H'
abbrev CR (CX:fj) (outer:List Env) (P:Program) (w:World) (H:Hp) (s:Mb) (Q:VK) (E:XK) (r:Result) (s':Mb):Prop :=
 match r with
 | .ok (.ret u)=>CE outer P w H s Q u s'
 | .ok _=>False
 | .error e=>CX outer H s E e s'
structure FnOk (P:Program) (w:World) (K:W.Frag) (mg:Str->Option Value) (base:Heap) (CX:fj) (k:Nat) (f:Addr) (fd:FuncData) (ps:List Str) (sp:Sp):Prop where
 len:∀vs H Q E,sp vs H Q E->vs.length=ps.length
 run:∀(A:Around) (outer:List Env) (s:Shared) (H:Hp) (args:Args) (us:List Value) (vs:List V) (Q:VK) (E:XK),Room k A->Env0 P w K mg base A outer s H->BindsTo s fd args (ps.zip us)->ao vs us->sp vs H Q E ->
   codeAny (model P w) A (.call ↥f args) (CR CX outer P w H s Q E) s
variable {base:Heap}
def Env0.make {mg:Str->JK Ma} {outer:List Env} (e:Env0 P w K mg base A outer s H) (C:Mc) (us:List Ma) (kw:List (Str×Ma)) :
   Env0 P w K mg base (A.under (.builtin "type.__call__" #[↥C::us,kw])) outer s H:=#[by first|exact e.frames|(simpa [Around.under,Code.envs,Code.isFrame,pushEnvs] using e.frames),e.mod,e.bs,e.bsz,e.funs,e.frf,e.hok,e.bare]
section
variable {X:Cx} {pins:List (Mc×Obj)} {σ:St} {H:Hp} {s s':Mb}
def Inv.env0 (I:Inv X pins σ H s):Env0 X.prog X.w X.K X.mg X.base X.A X.stack s H :=
 #[I.ok.frames,I.ok.mod,I.bs,Jj I.ok.bsz I.sz,I.stack,I.stkFree,I.hok,I.bare]
def Inv.after {Q:VK} (I:Inv X pins σ H s) (h:CE X.stack X.prog X.w H s Q u s'):EP X pins σ Q u s':=by let#[v,H',os,bare,un,hok,r,q]:=h;let#[hh,g,d,t,os']:=s';obtain rfl:os'=s.os:=os;show#[v,H',I.call (h':=hh) (g':=g) (d':=d) (t':=t) (ch:=[]) un hok bare (λb z=>absurd z 0x6),r,q]
end
abbrev qg (sp:Sp) (dvs:List V) (E:XK) (t:TA):TE:=λσ H Q=>t σ H λvs H1=>sp (vs++dvs) H1 Q E
abbrev xX (C:Mc) (m:Str) (sp:Sp) (dvs:List V) (E:XK) (ta:TE) (t:TA):TE:=λσ H Q=>ta σ H λx H1=>∃a dx fs,x=↥a/\H1 a=⇑(.ins C dx fs)/\fs.lookup m=none /\
 t σ H1 λvs H2=>sp (x::(vs++dvs)) H2 Q E
abbrev xh (C:Mc) (sp:Sp) (dvs:List V) (E:XK) (t:TA):TE:=λσ H Q=>t σ H λvs H1=>∀x dx,H1 x=none->H1 dx=none->dx≠x ->
 sp (↥x::(vs++dvs)) (upd (upd H1 dx (.own x)) x (.ins C dx [])) (λv H2=>v=.non/\Q ↥x H2) E
abbrev fP (K:Md) (fd:FuncData) (ps:List Str) (ds:List Ma):Prop :=
 ∀(s:Mb) (us:List Ma),K.In s.heap->(us++ds).length=ps.length->BindsTo s fd #[us,[]] (ps.zip (us++ds))
def fP.all {fd:FuncData} {ps:List Str} (h:∀us:List Ma,us.length=ps.length->bindArgs fd #[us,[]]=pure (ps.zip us)):fP K fd ps []:=λs us _ hl=>by rw[K5] at hl ⊢;exact .of_eq (h us hl)
abbrev j7 (CX:fj) (X:Cx) (E:XK):Prop:=∀(pins:List (Mc×Obj)) (σ:St) (H:Hp) (s:Mb) (e:Ma) (s':Mb),Inv X pins σ H s->CX X.stack H s E e s'->X.xe e s'
section
variable {X:Cx} {CX:fj} {k:Nat} {f C:Mc} {fd:FuncData} {ps:List Str} {sp:Sp} {dvs:List V} {ds:List Ma} {E:XK} {x m:Str} {p pos apos:Pos} {e o:Expr} {es:List Expr} {ta:TE} {t:TA}
def qc {Q:VK} {vs:List V} (F:FnOk X.prog X.w X.K X.mg X.base CX k f fd ps sp) (hr:Room k X.A) (hb:fP X.K fd ps ds) (hd:ao dvs ds) (hx:j7 CX X E)
   (I:Inv X pins σ H s) (r:ao vs us) (h:sp (vs++dvs) H Q E):wpAny 0x5 X.A (call ↥f us) (EP X pins σ Q) X.xe s:=by
 have r2:ao (vs++dvs) (us++ds):=r.append hd;have hl:(us++ds).length=ps.length:=by rw[<- r2.length]; exact F.len _ _ _ _ h
 refine wpAny_call (MC (F.run X.A X.stack s H #[us,[]] (us++ds) (vs++dvs) Q E hr I.env0 (hb s us I.kIn hl) r2 h) λr s' hq=>?_);cases r with
 | error e=>exact hx pins σ H s e s' I hq
 | ok fl =>
   cases fl with
   | ret u=>exact I.after hq
   | next=>exact False.elim hq
   | brk=>exact False.elim hq
   | cont=>exact False.elim hq
def IS (F:FnOk X.prog X.w X.K X.mg X.base CX k f fd ps sp) (hr:Room k X.A) (hg:Gl X x) (hm:X.mg x=⇑↥f) (hk:PySem.W.keepIn X.K ↥f=true) (hb:fP X.K fd ps ds) (hd:ao dvs ds) (hx:j7 CX X E)
   (ha:PA X (e::es) t) (hdb:(x==("__debug__":Str))=false:=by decide) (he:starEach (e::es) X.env=(false,eval e X.env)::starEach es X.env:=by rfl) (hpl:(backTo pos (starEach es X.env)).any (·.1)=false:=by rfl) :
   PE X (.Call (.Name x p) (e::es) [] pos) (qg sp dvs E t):=by
 intro pins s σ H Q I h;refine Kq (qG I hg hm ?_ hdb);refine PySem.W.callWith_K (h₀:=X.base) I.ok.mod.kin hk (al (ha pos pins s σ H _ I h) λus s1 z72_=>z72_.e λvs H1 I1 r q=>#[I1.kIn,?_]) he hpl;exact qc F hr hb hd hx I1 r q
def fe (he:PE X o ta) (c:Cls X.K C) (hm:Meth X.K C m f) (F:FnOk X.prog X.w X.K X.mg X.base CX k f fd ps sp) (hr:Room k X.A) (hb:fP X.K fd ps ds) (hd:ao dvs ds) (hx:j7 CX X E) (ha:PA X (e::es) t)
   (hst:starEach (e::es) X.env=(false,eval e X.env)::starEach es X.env:=by rfl) (hpl:(backTo pos (starEach es X.env)).any (·.1)=false:=by rfl)
   (ht:eval (.Call (.Attribute o m apos) (e::es) [] pos) X.env=(do
     let ov <- eval o X.env
     standAt apos.atName
     let (f,first) <- holding [ov] (getMethod ov m pl)
     callWith pos f first (backTo pos (starEach (e::es) X.env)) (backToKw pos (keywordEach [] X.env))):=by rfl) :
   PE X (.Call (.Attribute o m apos) (e::es) [] pos) (xX C m sp dvs E ta t):=by
 intro pins s σ H Q I h;refine PySem.W.methodCall_KW (pl:=pl) (al (he pins s σ H _ I h) λu s1 z73_=>?_) ht;let#[x,H1,I1,rx,a,dx,fs,ex,ea,l,q]:=z73_;subst ex;obtain rfl:u=Value.ref a:=rx;refine w9 I1 ea c hm l ?_;refine PySem.W.callWith_K (first:=[↥a]) (h₀:=X.base) I.ok.mod.kin hm.kp (al (ha pos pins s1 σ H1 _ I1 q) λus s2 z74_=>z74_.e λvs H2 I2 r q2=>#[I2.kIn,?_]) hst hpl;exact qc (us:=↥a::us) (vs:=↥a::vs) F hr hb hd hx I2 (.cons rfl r) q2
def Hc (he:PE X o ta) (c:Cls X.K C) (hm:Meth X.K C m f) (F:FnOk X.prog X.w X.K X.mg X.base CX k f fd ps sp) (hr:Room k X.A) (hb:fP X.K fd ps ds) (hd:ao dvs ds) (hx:j7 CX X E)
   (ht:eval (.Call (.Attribute o m apos) [] [] pos) X.env=(do
     let ov <- eval o X.env
     standAt apos.atName
     let (f,first) <- holding [ov] (getMethod ov m pl)
     callWith pos f first (backTo pos (starEach [] X.env)) (backToKw pos (keywordEach [] X.env))):=by rfl) :
   PE X (.Call (.Attribute o m apos) [] [] pos) (xX C m sp dvs E ta nX):=by
 intro pins s σ H Q I h;refine PySem.W.methodCall_KW (pl:=pl) (al (he pins s σ H _ I h) λu s1 z75_=>?_) ht;let#[x,H1,I1,rx,a,dx,fs,ex,ea,l,q]:=z75_;subst ex;obtain rfl:u=Value.ref a:=rx;refine w9 I1 ea c hm l ?_;exact PySem.W.callWith_K0 (first:=[↥a]) I1.kIn hm.kp (qc (us:=[↥a]) (vs:=[↥a]) F hr hb hd hx I1 (.cons rfl .nil) q)
structure Mk (K:W.Frag) (C f:Addr):Prop where
 makes:PySem.W.makesIn K C=true
 init:PySem.W.findIn K ↥C "__init__"=⇑⇑↥f
 fn:PySem.W.isFn K ↥f=true
 kp:PySem.W.keepIn K ↥C=true
def He {Q:VK} {vs:List V} (M:Mk X.K C f) (F:FnOk X.prog X.w X.K X.mg X.base CX k f fd ps sp) (hr:Room (k+1) X.A) (hb:fP X.K fd ps ds) (hd:ao dvs ds)
   (hx:j7 CX X E) (I:Inv X pins σ H s) (r:ao vs us)
   (h:∀x dx,H x=none->H dx=none->dx≠x->sp (↥x::(vs++dvs)) (upd (upd H dx (.own x)) x (.ins C dx [])) (λv H2=>v=.non/\Q ↥x H2) E) :
   wpAny 0x5 X.A (call ↥C us) (EP X pins σ Q) X.xe s:=by
 have hq:=h (s.heap.objs.size+1) s.heap.objs.size (I.hok.fresh (LQ _)) (I.hok.fresh (JN _)) (Js (MB _));have I2:=Inv.made (C:=C) I;have r2:ao (V.ref (s.heap.objs.size+1)::(vs++dvs)) (Value.ref (s.heap.objs.size+1)::(us++ds)):=.cons rfl (r.append hd);have hl:(Value.ref (s.heap.objs.size+1)::us++ds).length=ps.length:=by have e:=r2.length;rw[F.len _ _ _ _ hq] at e;exact e.symm
 refine wpAny_call (FP (f:=f) I.kIn M.makes M.init (beq_iff_eq.mp M.fn) (MC (F.run _ X.stack _ _ #[Value.ref (s.heap.objs.size+1)::us,[]] (Value.ref (s.heap.objs.size+1)::(us++ds)) _ _ E (hr.make C us [])
   (I2.env0.make C us []) (hb _ (Value.ref (s.heap.objs.size+1)::us) I2.kIn hl) r2 hq) λr s' hq'=>?_))
 cases r with
 | error e=>exact hx pins σ _ _ e s' I2 hq'
 | ok fl =>
   cases fl with
   | ret u =>
     let#[v,H',I3,rv,ev,q3]:=I2.after hq';subst ev;show#[rv,#[V.ref (s.heap.objs.size+1),H',I3,rfl,q3]]
   | next=>exact False.elim hq'
   | brk=>exact False.elim hq'
   | cont=>exact False.elim hq'
def Cs (M:Mk X.K C f) (F:FnOk X.prog X.w X.K X.mg X.base CX k f fd ps sp) (hr:Room (k+1) X.A) (hg:Gl X x) (hm:X.mg x=⇑↥C) (hb:fP X.K fd ps ds) (hd:ao dvs ds) (hx:j7 CX X E)
   (ha:PA X (e::es) t) (hdb:(x==("__debug__":Str))=false:=by decide) (he:starEach (e::es) X.env=(false,eval e X.env)::starEach es X.env:=by rfl) (hpl:(backTo pos (starEach es X.env)).any (·.1)=false:=by rfl) :
   PE X (.Call (.Name x p) (e::es) [] pos) (xh C sp dvs E t):=by
 intro pins s σ H Q I h;refine Kq (qG I hg hm ?_ hdb);refine PySem.W.callWith_K (h₀:=X.base) I.ok.mod.kin M.kp (al (ha pos pins s σ H _ I h) λus s1 z76_=>z76_.e λvs H1 I1 r q=>#[I1.kIn,?_]) he hpl;exact He M F hr hb hd hx I1 r q
end
structure FnScope (N P:List Str) (sc:Scope):Prop where
 kind:sc.kind=.function
 co:sc.isCoroutine=false
 gen:sc.isGenerator=false
 nd:N.Nodup
 pre:N.take P.length=P
 par:∀x∈P,sc.names.lookup x=some .local\/sc.names.lookup x=some .cell
 nofree:∀y∈sc.names,y.2≠.free
def wT {kindOf:Str->JK NameKind} {x:Str}:∀{binds:List (Str×Ma)} {m:Str->JK Ma},(∀v,(x,v) ∉ binds)->bindL kindOf binds m x=m x
 | [],_,_=>rfl
 | (n,v)::r,m,h=>by
   unfold bindL;rw[wT λw hw=>h w (JY _ hw)];split
   . have:x≠n:=by rintro rfl; exact h v JZ
     simp [this]
   . rfl
def uC {kindOf:Str->JK NameKind} {x:Str}:∀{binds:List (Str×Ma)} {m:Str->JK Ma},(∀v,(x,v) ∉ binds)->bindC kindOf binds m x=m x
 | [],_,_=>rfl
 | (n,v)::r,m,h=>by
   unfold bindC;rw[uC λw hw=>h w (JY _ hw)];split
   . rfl
   . have:x≠n:=by rintro rfl; exact h v JZ
     simp [this]
def wR {kindOf:Str->JK NameKind} {x:Str} {v:Ma}:∀{P:List Str} {vs:List Ma} {i:Nat} {m:Str->JK Ma},P.Nodup->P[i]?=⇑x->vs[i]?=⇑v->kindOf x=some .local ->
   bindL kindOf (P.zip vs) m x=⇑v
 | [],_,_,_,_,h,_,_=>by simp at h
 | _::_,[],_,_,_,_,h,_=>by simp at h
 | p::P,w::vs,0,m,nd,h1,h2,hk=>by simp at h1 h2; subst h1; subst h2;show bindL kindOf ((p,w)::P.zip vs) m p=_;unfold bindL;rw[wT λv hv=>(KN.mp nd).1 (LA hv).1,JR hk];simp
 | p::P,w::vs,i+1,m,nd,h1,h2,hk=>by show bindL kindOf ((p,w)::P.zip vs) m x=_;unfold bindL;exact wR (i:=i) (KN.mp nd).2 ↑h1 ↑h2 hk
def wr {kindOf:Str->JK NameKind} {x:Str} {v:Ma}:∀{P:List Str} {vs:List Ma} {i:Nat} {m:Str->JK Ma},P.Nodup->P[i]?=⇑x->vs[i]?=⇑v->kindOf x≠some .local ->
   bindC kindOf (P.zip vs) m x=⇑v
 | [],_,_,_,_,h,_,_=>by simp at h
 | _::_,[],_,_,_,_,h,_=>by simp at h
 | p::P,w::vs,0,m,nd,h1,h2,hk=>by simp at h1 h2; subst h1; subst h2;show bindC kindOf ((p,w)::P.zip vs) m p=_;unfold bindC;rw[uC λv hv=>(KN.mp nd).1 (LA hv).1,JI hk];simp
 | p::P,w::vs,i+1,m,nd,h1,h2,hk=>by show bindC kindOf ((p,w)::P.zip vs) m x=_;unfold bindC;exact wr (i:=i) (KN.mp nd).2 ↑h1 ↑h2 hk
abbrev ia (N:List Str) (vs:List V):St:=vs.map some++List.replicate (N.length - vs.length) none
abbrev jW (CX:fj) (P:Program) (w:World) (K:Md) (mg:Str->JK Ma) (base:Heap) (N:List Str) (qual:Str) (scope:Scope) (f:Mc) (cd:Ma) (A:Around) (outer:List Env) (s:Mb) (H:Hp) (E:XK):Cx where
 prog:=P
 w:=w
 K:=K
 mg:=mg
 base:=base
 A:=A.deeper (envOfC qual scope s.heap.objs.size f cd)
 N:=N
 s₀:=s
 H₀:=H
 env:=envOfC qual scope s.heap.objs.size f cd
 outer:=outer
 stack:=envOfC qual scope s.heap.objs.size f cd::outer
 ex:=[]
 calm:=true
 fn:=λ_=>true
 pn:=[]
 xe:=λe s'=>wpAny (model P w) (A.deeper (envOfC qual scope s.heap.objs.size f cd)) (leaving (envOfC qual scope s.heap.objs.size f cd) e) (λ_ s''=>CX outer H s E e s'') (λe' s''=>CX outer H s E e' s'') s'
def tR {sc:Scope} {n:Nat} (h:sc.names.lookup x=some .cell):∃c,(cellsFrom n sc.names []).lookup x=⇑c:=by have q:=PySem.W.cellsFrom_some sc.names n [] (.inl h);exact LD.mp q
def Cn {CX:fj} {mg:Str->JK Ma} {N ps:List Str} {qual:Str} {scope:Scope} {f:Mc} {cd:Ma} {outer:List Env} {s1:Mb}{E:XK} {vs:List V}
   (S:FnScope N ps scope) (hd:A.handled=none) (e0:Env0 P w K mg base A outer s H) (hl:vs.length=ps.length) (r:ao vs us)
   (x:InCallC s s.heap.objs.size (bindL (envOfC qual scope s.heap.objs.size f cd).kindOf (ps.zip us) λ_=>none) (cellsFrom (s.heap.objs.size+1) scope.names []) (bindC (envOfC qual scope s.heap.objs.size f cd).kindOf (ps.zip us) λ_=>none) s1) :
   Inv (jW CX P w K mg base N qual scope f cd A outer s H E) [] (ia N vs) H s1:=by
 have hpl:ps.length<=N.length:=by have:=JW List.length S.pre; rw[Jk] at this; lia
 let#[h1,tk,rfl,hk]:=x.done;have noA:∀b:Mc,b ∉ (jW CX P w K mg base N qual scope f cd A outer s H E).ex:=λb z=>absurd (show b∈([]:List Mc) from z) 0x6;show#[#[e0.mod,S.kind,7,JN _,λy z c h1 h2=>?_,λy hy=>?_,λy c _ h=>?_,λ_=>hd,Around.frames_deeper e0.frames,.inr #[7],λb z=>absurd z (noA b),e0.bs,e0.bsz,λb _ _=>noA b,λb z=>absurd z (noA b),e0.funs,e0.frf],rfl,e0.bare,Un.kept hk,#[_,x.toInCall.ns,λi y v h1 h2 h3=>?_],λy c h=>#[_,x.cell y c h],e0.hok.fresh (JN _),λy c h=>?_,λp hp=>absurd (show p∈([]:List (Mc×Obj)) from hp) 0x6,e0.hok.kept hk,?_]
 . exact name_of_addr x.apart (PySem.mem_of_lookup h1) (PySem.mem_of_lookup h2)
 . have hy:scope.names.lookup y=some .cell\/scope.names.lookup y=some .free:=hy;rcases hy with hy|hy
   . exact tR hy
   . exact absurd rfl (S.nofree _ (PySem.mem_of_lookup hy))
 . exact LC (x.above y c (PySem.mem_of_lookup h))
 . have hi:i<vs.length:=by
     unfold ia at h2;by_cases hi:i<vs.length
     . exact hi
     . rw[Jf ↑hi] at h2;rw[List.getElem?_replicate] at h2;split at h2 <;> cases h2
   have ha:vs[i]?=⇑v:=by
     unfold ia at h2;rw[KM ↑hi,JS] at h2;cases e:vs[i]? with
     | none=>rw[e] at h2; cases h2
     | some a=>rw[e] at h2; cases h2; rfl
   let#[u,hu,rv]:=r.get ha;have hp:ps[i]?=⇑y:=by rw[<- S.pre,LF ∅]; exact h1
   have ndP:ps.Nodup:=by rw[<- S.pre]; exact S.nd.sublist (List.take_sublist _ _)
   show#[u,rv,?_];rcases S.par y (JM hp) with k|k
   . exact .inl #[k,wR ndP hp hu k]
   . let#[c,e]:=tR (n:=s.heap.objs.size+1) k;refine .inr #[.inl k,c,e,?_];have q:=x.cell y c e;rw[wr ndP hp hu (by show scope.names.lookup y≠_; rw[k]; decide)] at q;exact q
 . exact e0.hok.fresh (LC (x.above y c (PySem.mem_of_lookup h)))
 . unfold ia;show _=N.length;rw[JF,JE,Jr]
   lia
def Bj {CX:fj} {mg:Str->JK Ma} {k:Nat} {f:Mc} {name qual:Str} {params:Arguments} {body:List Stmt} {scope:Scope} {dV kV doc pm cdv ct oc:Ma} {an od:JK Mc}
   {osl:Array (JK Ma)} {N ps:List Str} {sp:Sp} (lk:K.lookup f=⇑#[oc,od,.func (PySem.W.fnOf name qual params body scope dV kV doc pm an cdv ct),osl]) (hcd:PySem.W.codeIn K cdv qual=true) (S:FnScope N ps scope)
   (len:∀vs H Q E,sp vs H Q E->vs.length=ps.length)
   (hbody:∀(A:Around) (outer:List Env) (s:Mb) (H:Hp) (vs:List V) (Q:VK) (E:XK),Room k (A.deeper (envOfC qual scope s.heap.objs.size f cdv))->sp vs H Q E ->
     ∃t,aY (jW CX P w K mg base N qual scope f cdv A outer s H E) body t/\t { nx:=λ_ H'=>Q .non H',rt:=Q } (ia N vs) H) :
   FnOk P w K mg base CX (k+1) f (PySem.W.fnOf name qual params body scope dV kV doc pm an cdv ct) ps sp:=by
 show#[len,λA outer s H args us vs Q E hr e0 hb r hsp=>?_];have hl:=len _ _ _ _ hsp;have KX:K.In s.heap:=e0.mod.kin.keeps λb o e=>(e0.bs b o e).1;have lim:s.heap.NoLimit:=e0.mod.nolimit.keeps λb o e=>(e0.bs b o e).1;have hkind:∀y∈ps.zip us,scope.names.lookup y.1=some .local\/(scope.names.lookup y.1=some .cell/\((cellsFrom (s.heap.objs.size+1) scope.names []).lookup y.1).isSome=true):=λ⟨n,v⟩ hy=>by
   rcases S.par n (LA hy).1 with q|q
   . exact .inl q
   . exact .inr #[q,PySem.W.cellsFrom_some _ _ _ (.inl q)]
 refine codeAny_call_function hr.depth (KX _ _ lk) rfl S.co S.gen rfl (PySem.W.codeRec_of KX hcd) (hb _ _ _ _ ?_);refine wpAny_newFunctionEnv_cells S.kind hkind λenv he s1 x=>?_;subst he;show#[lim.keeps x.toInCall.keep,codeAny_func ?_];let#[t,ht,hq]:=hbody A outer s H vs Q E (hr.deeper _) hsp;have I:Inv (jW CX P w K mg base N qual scope f cdv A outer s H E) [] (ia N vs) H s1:=Cn S hr.hd e0 hl r x;refine LI (ht [] s1 (ia N vs) H _ I hq) (λfl s' hs=>?_) λe s' hs=>hs;have fin:∀{σ':St} {H':Hp} {v:V} {u:Ma},Inv (jW CX P w K mg base N qual scope f cdv A outer s H E) [] σ' H' s'->bC v u->Q v H'->CE outer P w H s Q u s' :=
   λ{σ' H' v u} J rv q=>#[v,H',J.os,J.bare,J.base,J.hok,rv,q]
 cases fl with
 | ret u =>
   let#[v,σ',H',J,rv,q]:=hs;exact fin J rv q
 | next =>
   let#[σ',H',J,q]:=hs;exact fin (v:=V.non) (u:=Value.none) J rfl q
 | brk =>
   let#[_,_,_,q]:=hs;exact False.elim q
 | cont =>
   let#[_,_,_,q]:=hs;exact False.elim q
section
variable {X:Cx} {x:Str} {p pos:Pos} {e:Expr} {es:List Expr} {t:TA} {id T:String} {r:List V->Hp->VK->Prop}
abbrev jg (r:List V->Hp->VK->Prop) (t:TA):TE:=λσ H Q=>t σ H λvs H1=>r vs H1 Q
def bz (hc:bX X (.builtin id) r) (hg:Gl X x) (hm:X.mg x=none) (hv:bootBuiltins x=⇑(.builtin id)) (ha:PA X (e::es) t) (hn:x≠"__name__":=by decide) (hdb:(x==("__debug__":Str))=false:=by decide)
   (he:starEach (e::es) X.env=(false,eval e X.env)::starEach es X.env:=by rfl) (hpl:(backTo pos (starEach es X.env)).any (·.1)=false:=by rfl):PE X (.Call (.Name x p) (e::es) [] pos) (jg r t):=by
 intro pins s σ H Q I h;refine Kq (fY I hg hm hv ?_ hn hdb);exact PyProof.Rows.callWith_builtin1 (al (ha pos pins s σ H _ I h) λus s1 z82_=>by let#[vs,H1,I1,r1,q1]:=z82_; exact hc pins s1 σ H1 vs us Q I1 r1 q1) he hpl
def br (hc:bX X (.type T) r) (hg:Gl X x) (hm:X.mg x=none) (hv:bootBuiltins x=⇑(.type T)) (ha:PA X (e::es) t) (hn:x≠"__name__":=by decide) (hdb:(x==("__debug__":Str))=false:=by decide)
   (he:starEach (e::es) X.env=(false,eval e X.env)::starEach es X.env:=by rfl) (hpl:(backTo pos (starEach es X.env)).any (·.1)=false:=by rfl):PE X (.Call (.Name x p) (e::es) [] pos) (jg r t):=by
 intro pins s σ H Q I h;refine Kq (fY I hg hm hv ?_ hn hdb);exact Jv (al (ha pos pins s σ H _ I h) λus s1 z83_=>by let#[vs,H1,I1,r1,q1]:=z83_; exact hc pins s1 σ H1 vs us Q I1 r1 q1) he hpl
end
end L2
namespace HT
open PySem PyProof.Rows
section
variable {prog:Program} {w:World} {A:Around} {E:Ma->Mb->Prop} {s:Mb}
def cat_tup {t b:Mc} {vs ws:List Ma} {Q:Ma->Mb->Prop} (ht:IsTup s.heap t vs.toArray) (hb:IsTup s.heap b ws.toArray) (hv:vs≠[])
   (h1:ws=[]->Q ↥t s) (h2:ws≠[]->Q ↥s.heap.objs.size { s with heap:=s.heap.push { cls:=.type "tuple",data:=.seq (vs++ws).toArray } })
   (hsz:vs.length+ws.length<=sizeLine):wpAny 0x9 A (binaryOp .Add ↥t ↥b) Q E s:=by
 obtain⟨⟨cls,dd,data,sl⟩,ho,hc,n,hd⟩:=id ht;obtain⟨⟨cls2,dd2,data2,sl2⟩,ho2,hc2,n2,hd2⟩:=id hb;simp only at hc hd hc2 hd2;subst hc hd hc2 hd2;have e:vs.toArray++ws.toArray=(vs++ws).toArray:=by simp
 by_cases hw:ws=[]
 . exact concat_meets #[_,ho,rfl] #[_,ho2,rfl] noFill_tuple_add seq_tuple_add LR LK (LG _ _)
     (tuple_addW1 t b vs.toArray ws.toArray n n2 dd dd2 sl sl2 ↑hv (by simp [hw])) #[ho,ho2,h1 hw]
 . refine concat_meets #[_,ho,rfl] #[_,ho2,rfl] noFill_tuple_add seq_tuple_add LR LK (LG _ _)
     (tuple_addW2 t b vs.toArray ws.toArray n n2 dd dd2 sl sl2 ↑hv ↑hw (by rw[Ja,Ja]; exact hsz)) #[ho,ho2,?_]
   rw[e];exact h2 hw
abbrev sIx (n d:Nat):JK Int->Nat
 | none=>d
 | some v=>if v<0 then(v+(n:Int)).toNat else min v.toNat n
def sIx_none (n d:Nat):sIx n d none=d:=rfl
def sIx_nat (n d k:Nat):sIx n d ⇑(k:Int)=min k n:=by show(if(k:Int)<0 then((k:Int)+(n:Int)).toNat else min (k:Int).toNat n)=min k n;rw[JI ∅,KA]
def Cp (n d:Nat) (hd:d<=n) (o:JK Int):sIx n d o<=n:=by
 cases o with
 | none=>exact hd
 | some v =>
   show(if v<0 then(v+(n:Int)).toNat else min v.toNat n)<=n;by_cases hv:v<0
   . rw[JR hv]; lia
   . rw[JI hv]; exact Nat.min_le_right _ _
def xW (v:Int) (n d:Nat):(if v<0 then max (v+(n:Int)) 0 else min v (n:Int))=((sIx n d ⇑v:Nat):Int):=by
 show(if v<0 then max (v+(n:Int)) 0 else min v (n:Int))=(((if v<0 then(v+(n:Int)).toNat else min v.toNat n):Nat):Int);by_cases hv:v<0
 . simp only[JR hv]; lia
 . simp only[JI hv]; lia
def IW (lo hi:JK Int) (n:Nat):Builtin.Slice.sliceAdjust lo hi 1 (n:Int)=(((sIx n 0 lo:Nat):Int),((sIx n n hi:Nat):Int)):=by
 have h1:¬ ((1:Int)<0):=by lia
 unfold Builtin.Slice.sliceAdjust;simp only[h1,if_false];refine Prod.ext ?_ ?_
 . cases lo with
   | none=>rfl
   | some v=>exact xW v n 0
 . cases hi with
   | none=>rfl
   | some v=>exact xW v n n
def IR (i j:Nat):Builtin.Slice.slicePlaces (i:Int) (j:Int) 1=j - i:=by
 unfold Builtin.Slice.slicePlaces;have h1:(1:Int) > 0:=by lia
 simp only[h1,if_true,Int.ediv_one];split <;> lia
def wE {v:Ma} {o:JK Int} {Q:JK Int->Mb->Prop} (p:IsPart v o) (h:Q o s):wpAny 0x9 A (Builtin.Slice.slicePartIndex v) Q E s:=by
 cases p with
 | none=>exact slicePart_none h
 | int i t=>exact slicePart_int h
def xI {sl:Mc} {vl vu:Ma} {lo hi:JK Int} {n:Nat} {Q:Int×Int×Nat->Mb->Prop} (hs:s.heap.IsSliceOf sl vl vu .none) (pl:IsPart vl lo) (pu:IsPart vu hi)
   (h:Q (((sIx n 0 lo:Nat):Int),1,sIx n n hi - sIx n 0 lo) s):wpAny 0x9 A (Builtin.Slice.sliceApplied ↥sl (pure (n:Int))) Q E s:=by
 let#[os,hos,hcs,hds]:=id hs;unfold Builtin.Slice.sliceApplied Builtin.Slice.sliceFields;refine JD (JD (K4 hos hds (x:=vl) rfl (JD (K4 hos hds (x:=vu) rfl (JD (K4 hos hds (x:=.none) rfl (JQ ?_)))))));refine JD (slicePart_none ?_);show wpAny _ _ (if((1:Int)==0)=true then _ else _) _ _ s;rw[JI #[]];refine JD (wE pl (JD (wE pu (JD (JQ ?_)))));show wpAny _ _ (match Builtin.Slice.sliceAdjust lo hi 1 (n:Int) with|(lo,hi)=>pure (lo,(1:Int),Builtin.Slice.slicePlaces lo hi 1)) _ _ s;rw[IW lo hi n];show wpAny _ _ (pure (((sIx n 0 lo:Nat):Int),(1:Int),Builtin.Slice.slicePlaces ((sIx n 0 lo:Nat):Int) ((sIx n n hi:Nat):Int) 1)) _ _ s;rw[IR];exact JQ h
def DY (xs:Array Ma) (i k:Nat):((List.range k).filterMap λ(m:Nat)=>xs[((i:Int)+(m:Int) * 1).toNat]?).toArray=((xs.toList.drop i).take k).toArray:=by
 have e:(λ(m:Nat)=>xs[((i:Int)+(m:Int) * 1).toNat]?)=λm=>xs[i+m]?:=by
   funext m;have:((i:Int)+(m:Int) * 1).toNat=i+m:=by lia
   rw[this]
 rw[e];have:=pick_run xs i k;rw[List.filterMap_map] at this;have e2:((λx=>xs[x]?) ∘ λx=>i+x)=λm=>xs[i+m]?:=rfl;rw[e2] at this;rw[this]
def getItem_tuple_cut {t sl:Mc} {items:Array Ma} {vl vu:Ma} {lo hi:JK Int} {Q:Ma->Mb->Prop} (ht:IsTup s.heap t items) (hs:s.heap.IsSliceOf sl vl vu .none) (pl:IsPart vl lo) (pu:IsPart vu hi)
   (hw:¬ (sIx items.size 0 lo=0/\sIx items.size items.size hi=items.size))
   (h:Q ↥s.heap.objs.size { s with heap:=s.heap.push { cls:=.type "tuple",data:=.seq ((items.toList.drop (sIx items.size 0 lo)).take (sIx items.size items.size hi - sIx items.size 0 lo)).toArray } })
   (hsz:items.size<=sizeLine):wpAny 0x9 A (getItem ↥t ↥sl) Q E s:=by
 have htake:sizeOk (.seq ((items.toList.drop (sIx items.size 0 lo)).take (sIx items.size items.size hi - sIx items.size 0 lo)).toArray):=by
   show((items.toList.drop (sIx items.size 0 lo)).take (sIx items.size items.size hi - sIx items.size 0 lo)).toArray.size<=sizeLine;rw[Ja,Jk,KI,Lq]
   lia
 have hj:sIx items.size items.size hi<=items.size:=Cp _ _ (JN _) hi;let#[os,hos,hcs,hds]:=id hs;have hTs:s.TypeIs ↥sl "slice":=#[os,hos,hcs]
 unfold getItem
 try with_reducible refine K6 ?_
 first|refine JD (JQ ?_)|skip
 refine JD (M7 ht.typeIs #[] ?_);refine JD (wpAny_callSpecial?_slot (name:=Str.ofString "__getitem__") ht.typeIs KF
   (KJ KF ht.typeIs entry_tuple_getitem ?_ (args_tuple_getitem _ _)))
 show wpAny _ _ (Builtin.Tuple.tupleItemsOf ↥t >>= _) _ _ s;refine JD (tupleItemsOf_ ht ?_);refine JD (Kz hTs ?_);rw[JR #[]];refine JD (xI hs pl pu ?_);have hno:¬ ((((sIx items.size 0 lo:Nat):Int)==0&&(1:Int)==1&&(sIx items.size items.size hi - sIx items.size 0 lo)==items.size)=true):=by intro q;rw[Jl,Jl] at q;have q1:((sIx items.size 0 lo:Nat):Int)=0:=eq_of_beq q.1.1;have q2:sIx items.size items.size hi - sIx items.size 0 lo=items.size:=eq_of_beq q.2;exact hw #[∅,∅]
 show wpAny _ _ (if(((sIx items.size 0 lo:Nat):Int)==0&&(1:Int)==1&&(sIx items.size items.size hi - sIx items.size 0 lo)==items.size)=true then _ else _) _ _ s;rw[JI hno,DY]
 first
   | exact JD (m:=Builtin.Tuple.tupleExact _) (Ko (JQ ⟨_,rfl,JQ h⟩) htake)
   | exact JD (m:=Builtin.Tuple.tupleExact _) (Ko (JD (JQ (JQ ⟨_,rfl,JQ h⟩))) htake)
   | exact JD (JD (m:=Builtin.Tuple.tupleExact _) (Ko (JQ (JQ ⟨_,rfl,JQ h⟩)) htake))
   | exact JD (JD (m:=Builtin.Tuple.tupleExact _) (Ko (JQ ⟨_,rfl,JQ h⟩) htake))
end
end HT
namespace L2
open PySem PySem.Spec PyProof.Rows
noncomputable abbrev TO:=St->Hp->(JK Int->Hp->Prop)->Prop
abbrev PO (X:Cx) (e:JK Expr) (t:TO):Prop :=
 ∀(pins:List (Mc×Obj)) (s:Mb) (σ:St) (H:Hp) (Q:JK Int->Hp->Prop),Inv X pins σ H s->t σ H Q ->
   wpAny 0x5 X.A (evalPart e X.env) (λu s'=>∃o H',Inv X pins σ H' s'/\IsPart u o/\Q o H') X.xe s
abbrev CK:TO:=λ_ H Q=>Q none H
abbrev EX (t:TE):TO:=λσ H Q=>t σ H λx H1=>∃i,x=.int i/\Q ⇑i H1
section
variable {X:Cx} {e:Expr} {te:TE} {lo hi:JK Expr} {tl th:TO} {pos p2:Pos}
def dO:PO X none CK:=by intro pins s σ H Q I h;rw[evalPart_none];exact JQ #[none,H,I,.none,h]
def dB (h:PE X e te):PO X ⇑e (EX te):=by intro pins s σ H Q I hw;rw[evalPart_some];refine al (h pins s σ H _ I hw) λu s1 z84_=>?_;let#[x,H1,I1,r1,q1]:=z84_;let#[i,rfl,q]:=q1;let#[t,rfl]:=r1;show#[⇑i,H1,I1,.int i t,q]
abbrev gP (X:Cx) (r:V->JK Int->JK Int->Hp->VK->Prop):Prop :=
 ∀(pins:List (Mc×Obj)) (s:Mb) (σ:St) (H:Hp) (x:V) (v vl vu:Ma) (lo hi:JK Int) (sl:Mc) (Q:VK),Inv X pins σ H s->bC x v->s.heap.IsSliceOf sl vl vu .none->IsPart vl lo->IsPart vu hi->r x lo hi H Q ->
   ∃T id,typeLookup (.type T) "__getitem__"=pure ⇑(.builtin id)/\s.TypeIs v T/\wpAny 0x5 X.A (getItem v ↥sl) (EP X pins σ Q) X.xe s
def gP.or {r r':V->JK Int->JK Int->Hp->VK->Prop} (h:gP X r) (h':gP X r'):gP X (λx lo hi H Q=>r x lo hi H Q\/r' x lo hi H Q):=by
 intro pins s σ H x v vl vu lo hi sl Q I rx hs pl pu q;rcases q with q|q
 . exact h pins s σ H x v vl vu lo hi sl Q I rx hs pl pu q
 . exact h' pins s σ H x v vl vu lo hi sl Q I rx hs pl pu q
abbrev tSl (r:V->JK Int->JK Int->Hp->VK->Prop) (te:TE) (tl th:TO):TE:=λσ H Q=>te σ H λx H1=>tl σ H1 λl H2=>th σ H2 λu H3=>r x l u H3 Q
def dG {r:V->JK Int->JK Int->Hp->VK->Prop} (hr:gP X r) (he:PE X e te) (hl:PO X lo tl) (hu:PO X hi th):PE X (.Subscript e (.Slice lo hi none p2) pos) (tSl r te tl th):=by intro pins s σ H Q I h;refine Subscript_ (al (he pins s σ H _ I h) λv s1 z85_=>?_);let#[x,H1,I1,r1,q1]:=z85_;refine wpAny_Slice (al (hl pins s1 σ H1 _ I1 q1) λvl s2 ⟨l,H2,I2,pl,q2⟩=>al (hu pins s2 σ H2 _ I2 q2) λvu s3 z87_=>?_);let#[u,H3,I3,pu,q3]:=z87_;rw[evalPart_none];refine JQ ?_;have I4:Inv X pins σ H3 { s3 with heap:=s3.heap.push { cls:=.type "slice",data:=.fields (List.toArray [vl,vu,.none]) } }:=I3.kept (t':=s3.toks) λb ob q=>JJ _ q;let#[T,id,hT,ht,hg]:=hr pins { s3 with heap:=s3.heap.push { cls:=.type "slice",data:=.fields (List.toArray [vl,vu,.none]) } } σ H3 x v vl vu l u s3.heap.objs.size Q I4 r1 (Heap.IsSliceOf.new ..) pl pu q3;show wpAny 0x5 X.A (subscriptTail e (.Slice lo hi none p2) v ↥s3.heap.objs.size) (EP X pins σ Q) X.xe { s3 with heap:=s3.heap.push { cls:=.type "slice",data:=.fields (List.toArray [vl,vu,.none]) } };exact tail_any (ops:=[↥s3.heap.objs.size,v]) ht hT hg (by with_unfolding_all rfl)
abbrev bu (xs:List V) (lo hi:JK Int):List V:=(xs.drop (HT.sIx xs.length 0 lo)).take (HT.sIx xs.length xs.length hi - HT.sIx xs.length 0 lo)
def uI (xs:List V) (lo hi:JK Int):(bu xs lo hi).length<=xs.length:=by
 unfold bu;rw[Jk,KI]
 lia
abbrev vO (K:Md):V->JK Int->JK Int->Hp->VK->Prop:=λx lo hi H Q=>∃a xs,x=↥a/\aD K H a xs /\
 ¬ (HT.sIx xs.length 0 lo=0/\HT.sIx xs.length xs.length hi=xs.length)/\∀p,H p=none->Q ↥p (upd H p (.tup (bu xs lo hi)))
def C6:gP X (vO X.K):=by
 intro pins s σ H x v vl vu lo hi sl Q I rx hs pl pu h;let#[a,xs,rfl,hx,hw,q]:=h;cases rx;let#[its,r,ht,hz]:=I.tuple hx;have hlen:its.toArray.size=xs.length:=by rw[Ja]; exact r.length.symm
 show#["tuple",_,KF.lookup,ht.typeIs,?_];refine HT.getItem_tuple_cut ht hs pl pu (by rw[hlen]; exact hw) ?_ (by rw[hlen]; exact hz);rw[hlen];show#[↥s.heap.objs.size,_,I.laid (t':=s.toks) (o:=.tup (bu xs lo hi)) (λb ob q=>JJ _ q) (JN _) ?_,rfl,q _ (I.hok.fresh (JN _))];show#[Jj (uI xs lo hi) hz,_,(r.drop (HT.sIx xs.length 0 lo)).take (HT.sIx xs.length xs.length hi - HT.sIx xs.length 0 lo),IsTup.new _ _]
abbrev xn (K:Md):R2:=λx y H Q=>∃a b xs ys,x=↥a/\y=↥b/\aD K H a xs/\aD K H b ys/\xs≠[]/\xs.length+ys.length<=sizeLine /\
 (ys=[]->Q ↥a H)/\(ys≠[]->∀p,H p=none->Q ↥p (upd H p (.tup (xs++ys))))
def ao.nil_iff {xs:List V} {us:List Ma} (r:ao xs us):us=[] <-> xs=[]:=by
 cases r with
 | nil=>simp
 | cons _ _=>simp
def DO:bU X (binaryOp .Add) (xn X.K):=by intro pins s σ H x y v u Q I rx ry h;let#[a,b,xs,ys,rfl,rfl,ha,hb,hx,hz,q1,q2]:=h;cases rx;cases ry;let#[its,r1,p1,_]:=I.tuple ha;let#[its2,r2,p2,_]:=I.tuple hb;refine HT.cat_tup p1 p2 (λz=>hx (r1.nil_iff.mp z)) (λz=>#[↥a,H,I,rfl,q1 (r2.nil_iff.mp z)]) (λz=>?_) (by rw[<- r1.length,<- r2.length]; exact hz);show#[↥s.heap.objs.size,_,I.laid (t':=s.toks) (o:=.tup (xs++ys)) (λb ob q=>JJ _ q) (JN _) ?_,rfl,q2 (λw=>z (r2.nil_iff.mpr w)) _ (I.hok.fresh (JN _))];show#[by rw[JF]; exact hz,_,r1.append r2,IsTup.new _ _]
end
abbrev cT (n:Nat) (i:Int):JK Nat:=if 0<=i then(if i<n then ⇑i.toNat else none) else if -(n:Int)<=i then ⇑(i+n).toNat else none
abbrev ay {α:Type} (xs:List α) (i:Int):JK α:=(cT xs.length i).bind λj=>xs[j]?
variable {n:Nat}
def uX {i:Int} {j:Nat} (h:cT n i=⇑j):seqIndex? i n=⇑j/\j<n/\-(n:Int)<=i/\i<n:=by
 unfold cT at h;by_cases h0:0<=i
 . rw[JR h0] at h;by_cases h1:i<n
   . rw[JR h1] at h;have e:i.toNat=j:=Option.some.inj h;show#[by rw[seqIndex_of h0 h1,e],∅,∅,h1]
   . rw[JI h1] at h; cases h
 . rw[JI h0] at h;by_cases h1:-(n:Int)<=i
   . rw[JR h1] at h;have e:(i+n).toNat=j:=Option.some.inj h;show#[by rw[seqIndex_neg ∅ h1,e],∅,h1,∅]
   . rw[JI h1] at h; cases h
def qE {α:Type} {xs:List α} {i:Int} {v:α} (h:ay xs i=⇑v):∃j,seqIndex? i xs.length=⇑j/\xs[j]?=⇑v/\j<xs.length/\-(xs.length:Int)<=i/\i<xs.length:=by
 unfold ay at h;cases e:cT xs.length i with
 | none=>rw[e] at h; cases h
 | some j =>
   rw[e] at h;let#[h1,h2,h3,h4]:=uX e;show#[j,h1,h,h2,h3,h4]
def bf {α:Type} {xs:List α} {j:Nat} {v:α} (h:xs[j]?=⇑v):ay xs (j:Int)=⇑v:=by
 have hj:j<xs.length:=(JH.mp h).1;have e:cT xs.length (j:Int)=⇑j:=by unfold cT;rw[JR ∅,JR ∅]; simp
 unfold ay; rw[e]; exact h
abbrev pM (b:Expr):Prop:=∀o i,subscripted b false o i=operate [o,i] (getItem o i)
abbrev fE (X:Cx) (r:R2):Prop :=
 ∀(value slice:Expr) (pins:List (Mc×Obj)) (s:Mb) (σ:St) (H:Hp) (x y:V) (v u:Ma) (Q:VK),Inv X pins σ H s->bC x v->bC y u->r x y H Q ->
   subscripted slice false v u=operate [v,u] (getItem v u)->wpAny 0x5 X.A (subscriptTail value slice v u) (EP X pins σ Q) X.xe s
abbrev jd (X:Cx) (id:String) (r:V->List V->Hp->VK->Prop):Prop :=
 ∀(pins:List (Mc×Obj)) (s:Mb) (σ:St) (H:Hp) (x:V) (xs:List V) (v:Ma) (us:List Ma) (Q:VK),Inv X pins σ H s->bC x v->ao xs us->r x xs H Q ->
   wpAny 0x5 X.A (call (.builtin id) (v::us)) (EP X pins σ Q) X.xe s
variable {x:V}
section
variable {X:Cx} {a b:Expr} {ta tb:TE} {pos:Pos}
def dj {r:R2} (hr:fE X r) (ha:PE X a ta) (hb:PE X b tb) (hs:pM b):PE X (.Subscript a b pos) (gq r ta tb):=by intro pins s σ H Q I h;exact Subscript_ (pA ha hb I h λv u s2 x y H2 I2 rx ry q=>hr a b pins s2 σ H2 x y v u Q I2 rx ry q (hs _ _))
abbrev Fp (K:Md):R2:=λx y H Q=>∃p xs i v,x=↥p/\y=.int i/\aE K H p xs/\ay xs i=⇑v/\Q v H
abbrev qP (K:Md):R2:=λx y H Q=>∃p xs i v,x=↥p/\y=.int i/\aD K H p xs/\ay xs i=⇑v/\Q v H
abbrev HU:R2:=λx y H Q=>∃z i c,x=.str z/\y=.int i/\z.length<=sizeLine/\ay z.cps.toList i=⇑c/\Q (.str #[(List.toArray [c])]) H
def vd:fE X (Fp X.K):=by
 intro value slice pins s σ H x y v u Q I rx ry h hs;let#[p,xs,i,z,rfl,rfl,hq,he,q]:=h;cases rx;let#[t,rfl]:=ry;let#[its,r,pl,hz]:=I.list hq;let#[j,h1,h2,h3,h4,h5]:=qE he;let#[w,ew,rw']:=r.get h2;have hl:=r.length;have hn:=jz;have fin:EP X pins σ Q w s:=#[z,H,I,rw',q]
 by_cases h0:0<=i
 . have hj:i.toNat=j:=by rw[seqIndex_of h0 h5] at h1;exact Option.some.inj h1
   exact item_listR pl.isList h0 ∅ (by rw[hj]; simpa using ew) fin hs
 . have hj:(i+(its.toArray.size:Int)).toNat=j:=by rw[seqIndex_neg ∅ h4] at h1;rw[Ja,<- hl];exact Option.some.inj h1
   exact subscriptTail_builtinR (x:=w) pl.isList.typeIs slot_list_getitem.lookup
     (wpAny_getItem_list_neg (Q:=λr s'=>r=w/\EP X pins σ Q r s') pl.isList ∅ (by rw[Ja] <;> lia) ∅ (by rw[hj]; simpa using ew) #[rfl,fin]) hs
def lA:fE X (qP X.K):=by
 intro value slice pins s σ H x y v u Q I rx ry h hs;let#[p,xs,i,z,rfl,rfl,hq,he,q]:=h;cases rx;let#[t,rfl]:=ry;let#[its,r,pl,hz]:=I.tuple hq;let#[j,h1,h2,h3,h4,h5]:=qE he;let#[w,ew,rw']:=r.get h2;have hl:=r.length;have hn:=jz;have fin:EP X pins σ Q w s:=#[z,H,I,rw',q]
 exact subscriptTail_builtinR (x:=w) pl.typeIs slot_tuple_getitem.lookup
   (getItem_tuple (j:=j) (Q:=λr s'=>r=w/\EP X pins σ Q r s') pl ∅ ∅ (by rw[Ja,<- hl]; exact h1) ↑ew #[rfl,fin]) hs
def pY:fE X HU:=by
 intro value slice pins s σ H x y v u Q I rx ry h hs;let#[z,i,c,rfl,rfl,hz,he,q]:=h;let#[t,rfl]:=rx;let#[t',rfl]:=ry;let#[j,h1,h2,h3,h4,h5]:=qE he;have hl:z.cps.toList.length=z.length:=by simp [Str.length]
 rw[hl] at h1 h4 h5;have hn:=jz;exact tail_any (typeIs_str s z t) slot_str_getitem.lookup (getItem_str (c:=c) (by have e1:decide (i < -(2 ^ 63:Int))=false:=JP ∅;have e2:decide (i>=2 ^ 63)=false:=JP ∅;rw[e1,e2,M0]) (by rw[h1]; simpa using h2) #[.str #[(List.toArray [c])],H,I.tok _,#[5],q]) hs
def II (its:List Ma) (n j:Nat) (u:Ma):Obj.mapSeq (·.setIfInBounds j u) { cls:=.type "list",data:=.seq its.toArray n }={ cls:=.type "list",data:=.seq (its.set j u).toArray n }:=by simp [Obj.mapSeq]
def Inv.lst {pins:List (Mc×Obj)} {σ:St} {H:Hp} {s:Mb} {p:Mc} {xs:List V} (I:Inv X pins σ H s) (h:H p=⇑(.lst xs)) :
   ∃(its:List Ma) (n:Nat),ao xs its/\s.heap.get? p=some { cls:=.type "list",data:=.seq its.toArray n }/\xs.length<=sizeLine:=by
 let#[z,its,n,r,e]:=I.hok p _ h;show#[its,n,r,e,z]
def Inv.lstUpd {pins:List (Mc×Obj)} {σ:St} {H:Hp} {s:Mb} {p:Mc} {xs ys:List V} {its its':List Ma} {n':Nat}{f:Obj->Obj} (I:Inv X pins σ H s) (h:H p=⇑(.lst xs))
   (ho:s.heap.get? p=some { cls:=.type "list",data:=.seq its.toArray n }) (hf:f { cls:=.type "list",data:=.seq its.toArray n }={ cls:=.type "list",data:=.seq its'.toArray n' }) (r:ao ys its') (hz:ys.length<=sizeLine) (t:Nat) :
   Inv X pins σ (upd H p (.lst ys)) { s with heap:=s.heap.update p f,toks:=t }:=by
 have e:(s.heap.update p f).get? p=some { cls:=.type "list",data:=.seq its'.toArray n' }:=by rw[LZ f ho (by rw[hf] <;> rfl),hf]
 refine I.write (x:=p) (e:=p) (by rw[h]; trivial) (.inl rfl) (λb u hb q=>(LS _ _ (Ne.symm hb))\q) #[_,e] ?_;show#[hz,its',n',r,e]
abbrev Ih:V->V->V->Hp->(Hp->Prop)->Prop:=λo i v H Q=>∃p xs k j,o=↥p/\i=.int k/\H p=⇑(.lst xs)/\cT xs.length k=⇑j/\Q (upd H p (.lst (xs.set j v)))
def gN:vM X Ih:=by
 intro pins s σ H o i v ov iv u Q I ro ri rv h;let#[p,xs,k,j,rfl,rfl,hp,hj,q]:=h;cases ro;let#[t,rfl]:=ri;let#[its,n,r,ho,hz]:=I.lst hp;let#[h1,h2,h3,h4]:=uX hj;have hl:=r.length;have hn:=jz;have I':Inv X pins σ (upd H p (.lst (xs.set j v))) { s with heap:=s.heap.update p (Obj.mapSeq (·.setIfInBounds j u)) } :=
   I.lstUpd hp ho (II its n j u) (r.set rv j) (by rw[KD]; exact hz) s.toks
 by_cases h0:0<=k
 . have hk:k.toNat=j:=by rw[seqIndex_of h0 h4] at h1;exact Option.some.inj h1
   exact PySem.W.ki_setAt ho h0 ∅ (by rw[Ja,<- hl]; exact h4) (by rw[hk]; show#[_,I',q])
 . have hk:(k+(its.toArray.size:Int)).toNat=j:=by rw[seqIndex_neg ∅ h3] at h1;rw[Ja,<- hl];exact Option.some.inj h1
   exact PySem.W.ki_setBack ho ∅ (by rw[Ja,<- hl]; exact h3) ∅ (by rw[hk]; show#[_,I',q])
def Hh (lo hi:JK Int) (n:Nat):(sliceBounds lo hi none n).1=((HT.sIx n 0 lo:Nat):Int)/\(sliceBounds lo hi none n).2.1=((HT.sIx n n hi:Nat):Int)/\(sliceBounds lo hi none n).2.2=1:=by
 show#[?_,?_,rfl]
 . cases lo with
   | none=>simp [sliceBounds,HT.sIx]
   | some i =>
     simp only[sliceBounds,HT.sIx,Option.getD_none,show(1:Int) > 0 by decide,if_true];by_cases h:i<0
     . simp only[h,if_true] <;> lia
     . simp only[h,if_false] <;> lia
 . cases hi with
   | none=>simp [sliceBounds,HT.sIx]
   | some i =>
     simp only[sliceBounds,HT.sIx,Option.getD_none,show(1:Int) > 0 by decide,if_true];by_cases h:i<0
     . simp only[h,if_true] <;> lia
     . simp only[h,if_false] <;> lia
def Cz (its:List Ma) (lo hi:JK Int):slicePick its.toArray lo hi none=((its.drop (HT.sIx its.length 0 lo)).take (HT.sIx its.length its.length hi - HT.sIx its.length 0 lo)).toArray:=by let#[h1,h2,h3]:=Hh lo hi its.toArray.size;unfold slicePick;rw[h1,h2,h3];simp only[sliceRange_one,pick_run,Ja] <;> rfl
abbrev Gv (K:Md):V->JK Int->JK Int->Hp->VK->Prop:=λx lo hi H Q=>∃a xs,x=↥a/\aE K H a xs/\∀p,H p=none->Q ↥p (upd H p (.lst (bu xs lo hi)))
def fZ:gP X (Gv X.K):=by intro pins s σ H x v vl vu lo hi sl Q I rx hs pl pu h;let#[a,xs,rfl,hx,q]:=h;cases rx;let#[its,r,ht,hz]:=I.list hx;have hlen:=r.length;show#["list",_,slot_list_getitem.lookup,ht.isList.typeIs,?_];refine wpAny_getItem_list_slice ht.isList hs pl pu .none 0x6 ?_ (by rw[Ja] <;> lia);rw[Cz,<- hlen];show#[↥s.heap.objs.size,_,I.laid (t':=s.toks) (o:=.lst (bu xs lo hi)) (λb ob q=>JJ _ q) (JN _) ?_,rfl,q _ (I.hok.fresh (JN _))];show#[Jj (uI xs lo hi) hz,_,(0),(r.drop (HT.sIx xs.length 0 lo)).take (HT.sIx xs.length xs.length hi - HT.sIx xs.length 0 lo),Jb _ rfl]
abbrev eI:V->Bool
 | .non=>true
 | .bl _=>true
 | .int _=>true
 | .str _=>true
 | _=>false
abbrev eQ:V->V->Bool
 | .non,.non=>true
 | .bl a,.bl b=>a==b
 | .bl a,.int b=>(if a then 1 else 0)==b
 | .int a,.bl b=>a==(if b then 1 else 0)
 | .int a,.int b=>a==b
 | .str a,.str b=>a==b
 | _,_=>false
def D2 {A:Around} {s:Mb} {y:V}{u v:Ma} (ry:bC y u) (rx:bC x v) (fy:eI y=true) (fx:eI x=true):SeqAt.EqAt A s u v (eQ y x):=by
 cases y with
 | non =>
   cases ry;cases x with
   | non=>cases rx; exact SeqAt.EqAt.same _
   | bl b=>cases rx; exact SeqAt.EqAt.none_bool b
   | int b=>let#[t,rfl]:=rx; exact SeqAt.EqAt.none_int b t
   | str b=>let#[t,rfl]:=rx; exact SeqAt.EqAt.none_str b t
   | _=>exact absurd (show false=true from fx) Je
 | bl a =>
   cases ry;cases x with
   | non=>cases rx; exact SeqAt.EqAt.bool_none a
   | bl b=>cases rx; exact SeqAt.EqAt.bool_bool a b
   | int b=>let#[t,rfl]:=rx; exact SeqAt.EqAt.bool_int a b t
   | str b=>let#[t,rfl]:=rx; exact SeqAt.EqAt.bool_str a b t
   | _=>exact absurd (show false=true from fx) Je
 | int a =>
   let#[t',rfl]:=ry;cases x with
   | non=>cases rx; exact SeqAt.EqAt.int_none a t'
   | bl b=>cases rx; exact SeqAt.EqAt.int_bool a t' b
   | int b=>let#[t,rfl]:=rx; exact SeqAt.EqAt.int_int a t' b t
   | str b=>let#[t,rfl]:=rx; exact SeqAt.EqAt.int_str a t' b t
   | _=>exact absurd (show false=true from fx) Je
 | str a =>
   let#[t',rfl]:=ry;cases x with
   | non=>cases rx; exact SeqAt.EqAt.str_none a t'
   | bl b=>cases rx; exact SeqAt.EqAt.str_bool a t' b
   | int b=>let#[t,rfl]:=rx; exact SeqAt.EqAt.str_int a t' b t
   | str b=>let#[t,rfl]:=rx; exact SeqAt.EqAt.str_str a t' b t
   | _=>exact absurd (show false=true from fx) Je
 | _=>exact absurd (show false=true from fy) Je
abbrev gE (x:V) (u:Ma):Bool:=match u with
 | .none=>eQ .non x
 | .bool b=>eQ (.bl b) x
 | .int i _=>eQ (.int i) x
 | .str z _=>eQ (.str z) x
 | _=>false
def pU {y:V}{u:Ma} (r:bC y u) (f:eI y=true):gE x u=eQ y x:=by
 cases y with
 | non=>cases r; rfl
 | bl b=>cases r; rfl
 | int i=>let#[t,rfl]:=r; rfl
 | str z=>let#[t,rfl]:=r; rfl
 | _=>exact absurd (show false=true from f) Je
def tW :∀{xs:List V} {us:List Ma},ao xs us->xs.all eI=true->us.any (gE x)=xs.any λy=>eQ y x:=by
 intro xs us h f
 induction h with
 | nil=>rfl
 | cons r t ih =>
   rw[MW,Jl] at f;rw[LW,LW,pU r f.1,ih f.2]
def r6 {A:Around} {s:Mb} {v:Ma} (rx:bC x v) (fx:eI x=true):∀{xs:List V} {us:List Ma},ao xs us->xs.all eI=true->∀u∈us,SeqAt.EqAt A s u v (gE x u):=by
 intro xs us h f
 induction h with
 | nil=>intro u hu; cases hu
 | cons r t ih =>
   intro u' hu;rw[MW,Jl] at f;rcases JT.mp hu with rfl|hu
   . rw[pU r f.1]; exact D2 r rx f.1 fx
   . exact ih f.2 u' hu
abbrev fQ (x:V) (xs:List V):Bool:=xs.any λy=>eQ y x
abbrev rIn (K:Md) (neg:Bool):R2:=λx y H Q=>∃p xs,y=↥p/\(aE K H p xs\/aD K H p xs)/\eI x=true/\xs.all eI=true/\Q (.bl (if neg then !fQ x xs else fQ x xs)) H
def fT:bU X (compareOp .In) (rIn X.K false):=by
 intro pins s σ H x y v u Q I rx ry h;let#[p,xs,rfl,hq,fx,fs,q]:=h;cases ry;rcases hq with hq|hq
 . let#[its,r,pl,hz]:=I.list hq;refine SeqAt.in_listAt (gE x) pl.isList (λw hw=>r6 rx fx r fs w ↑hw) #[.bl _,H,I,rfl,?_];rw[show its.toArray.any (gE x)=its.any (gE x) by simp,tW r fs];exact q
 . let#[its,r,pl,hz]:=I.tuple hq;refine SeqAt.in_tupleAt (gE x) pl (λw hw=>r6 rx fx r fs w ↑hw) #[.bl _,H,I,rfl,?_];rw[show its.toArray.any (gE x)=its.any (gE x) by simp,tW r fs];exact q
def qv:bX X (.builtin "len") (λxs H Q=>∃p ys,xs=[↥p]/\(aE X.K H p ys\/aD X.K H p ys)/\Q (.int ys.length) H):=by
 intro pins s σ H xs us Q I r h;let#[p,ys,rfl,hq,q]:=h;let#[u,rfl,rx]:=i9 r;cases rx;have hn:=jz;rcases hq with hq|hq
 . let#[its,r',pl,hz]:=I.list hq;have hlen:=r'.length;exact Calls.call_len_list pl.isList (by simp only[Ja] <;> lia) #[.int ys.length,H,I.tok _,#[s.toks+1,by rw[Ja,hlen]],q]
 . let#[its,r',pl,hz]:=I.tuple hq;have hlen:=r'.length;exact len_tuple pl (by simp only[Ja] <;> lia) #[.int ys.length,H,I.tok _,#[s.toks+1,by rw[Ja,hlen]],q]
def jn:bX X (.type "list") (λxs H Q=>∃p ys,xs=[↥p]/\(aE X.K H p ys\/aD X.K H p ys)/\∀l,H l=none->Q ↥l (upd H l (.lst ys))):=by
 intro pins s σ H xs us Q I r h;let#[p,ys,rfl,hq,q]:=h;let#[u,rfl,rx]:=i9 r;cases rx;have fin:∀(its:List Ma),ao ys its->ys.length<=sizeLine->∀(h':Heap) (c':Nat),(∀b o',s.heap.get? b=⇑o'->h'.get? b=⇑o') ->
     h'.get? s.heap.objs.size=some { cls:=.type "list",dict:=none,data:=.seq its.toArray c',slots:=0xA }->EP X pins σ Q ↥s.heap.objs.size { s with heap:=h' }:=λits r' hz h' c' kp e =>
   #[↥s.heap.objs.size,_,I.laid (t':=s.toks) kp (JN _) (show cJ X.prog X.w _ h' _ (.lst ys) from#[hz,its,c',r',e]),rfl,q _ (I.hok.fresh (JN _))]
 rcases hq with hq|hq
 . let#[its,r',pl,hz]:=I.list hq;have hlen:=r'.length;let#[o,ho,hc,n,hd]:=pl.isList;exact call_list_seq p (.inl rfl) ho hc hd (λh' c' kp e=>fin its r' hz h' c' kp e) (by simp only[Ja] <;> lia)
 . let#[its,r',pl,hz]:=I.tuple hq;have hlen:=r'.length;let#[o,ho,hc,n,hd]:=pl;exact call_list_seq p (.inr rfl) ho hc hd (λh' c' kp e=>fin its r' hz h' c' kp e) (by simp only[Ja] <;> lia)
def fX:bX X (.type "tuple") (λxs H Q=>∃p ys,xs=[↥p]/\((aE X.K H p ys/\∀l,H l=none->Q ↥l (upd H l (.tup ys)))\/(aD X.K H p ys/\Q ↥p H))):=by
 intro pins s σ H xs us Q I r h;let#[p,ys,rfl,h]:=h;let#[u,rfl,rx]:=i9 r;cases rx;rcases h with⟨hq,q⟩|⟨hq,q⟩
 . let#[its,r',pl,hz]:=I.list hq;have hlen:=r'.length;refine call_tuple_list pl.isList (λh' kp=>?_) (by simp only[Ja] <;> lia);have I1:Inv X pins σ H { s with heap:=h' }:=I.kept (t':=s.toks) kp;have I2:Inv X pins σ (upd H h'.objs.size (.tup ys)) { s with heap:=h'.push { cls:=.type "tuple",data:=.seq its.toArray } } :=
     I1.laid (t':=s.toks) (λb o e=>JJ _ e) (JN _) (show cJ X.prog X.w _ _ _ (.tup ys) from#[hz,its,r',IsTup.new _ _])
   show#[↥h'.objs.size,_,I2,rfl,q _ (I1.hok.fresh (JN _))]
 . let#[its,r',pl,hz]:=I.tuple hq;exact call_tuple_same pl #[↥p,H,I,rfl,q]
abbrev ow (K:Md) (T:String) (x:V) (H:Hp):Prop:=match x with
 | .str _=>T="str"
 | .int _=>T="int"
 | .ref p=>(T="list"/\∃xs,aE K H p xs)\/(T="tuple"/\∃o,K.lookup p=⇑o/\o.cls=.type "tuple"/\o.dict=none) \/
     (T="dict"/\((∃kvs,H p=⇑(.dK kvs))\/∃kvs,H p=⇑(.dT kvs)))\/(T="set"/\∃S n,H p=⇑(.set S n))
 | _=>False
def tY {pins:List (Mc×Obj)} {σ:St} {H:Hp} {s:Mb} {T:String} {v:Ma} (I:Inv X pins σ H s) (r:bC x v) (ty:ow X.K T x H) :
   s.TypeIs v T/\∀a,v=↥a->∃ob,s.heap.get? a=⇑ob/\ob.dict=none:=by
 cases x with
 | str z =>
   let#[t,rfl]:=r;cases (show T="str" from ty);show#[typeIs_str s z t,λ_ e=>nomatch e]
 | int i =>
   let#[t,rfl]:=r;cases (show T="int" from ty);show#[typeIs_int s i t,λ_ e=>nomatch e]
 | ref p =>
   cases r;rcases ty with⟨rfl,xs,hq⟩|⟨rfl,o,hk,hc,hd⟩|⟨rfl,hk⟩|⟨rfl,S,n,hk⟩
   . let#[its,_,pl,_]:=I.list hq;show#[pl.isList.typeIs,λa e=>?_];cases e;let#[o,n,e,c,hd,_]:=pl;show#[o,e,hd]
   . show#[#[o,I.kIn p o hk,hc],λa e=>?_];cases e;show#[o,I.kIn _ o hk,hd]
   . have z:∃o,s.heap.get? p=⇑o/\o.ExactDict:=by
       rcases hk with⟨kvs,hk⟩|⟨kvs,hk⟩
       . let#[_,_,_,_,o,_,_,e,ex,_]:=I.hok p _ hk;show#[o,e,ex]
       . let#[_,_,_,_,o,_,_,e,ex,_]:=I.hok p _ hk;show#[o,e,ex]
     let#[o,e,ex]:=z;show#[#[o,e,ex.1],λa e2=>?_];cases e2;show#[o,e,ex.2.1]
   . let#[o,_,_,_,e,ex,_]:=I.hok p _ hk;show#[#[o,e,ex.1],λa e2=>?_];cases e2;show#[o,e,ex.2.1]
 | _=>exact False.elim ty
abbrev D' (K:Md) (T:String) (r:V->List V->Hp->VK->Prop) (to:TE):TE:=λσ H Q=>to σ H λx H1=>ow K T x H1/\r x [] H1 Q
abbrev qS (K:Md) (T:String) (r:V->List V->Hp->VK->Prop) (to:TE) (t:TA):TE:=λσ H Q=>to σ H λx H1=>ow K T x H1/\t σ H1 λxs H2=>r x xs H2 Q
variable {o e:Expr} {es:List Expr} {to:TE} {t:TA} {name:Str} {apos cpos:Pos} {T id:String} {r:V->List V->Hp->VK->Prop}
def EC (pa:PlainAttrs T) (slot:Slot T name id) (hty:typeOf (.builtin id)=pure (.type "method_descriptor")) (hm:jd X id r) (ho:PE X o to)
   (hbase:attributeBase o name X.env (eval o X.env)=eval o X.env:=by rfl) (hline:(apos.endLine==cpos.line)=true:=by rfl):PE X (.Call (.Attribute o name apos) [] [] cpos) (D' X.K T r to):=by
 intro pins s σ H Q I h;refine MI hbase hline (al (ho pins s σ H _ I h) λv s1 z88_=>?_);let#[x,H1,I1,r1,ty,q1]:=z88_;let#[h1,h2]:=tY I1 r1 ty;show#[T,id,pa,slot,hty,h1,h2,Calls.callWith_builtin rfl (PySem.evalArgs_none (hm pins s1 σ H1 x [] v [] Q I1 r1 .nil q1))]
def cq (pa:PlainAttrs T) (slot:Slot T name id) (hty:typeOf (.builtin id)=pure (.type "method_descriptor")) (hm:jd X id r) (ho:PE X o to) (ha:PA X (e::es) t)
   (hbase:attributeBase o name X.env (eval o X.env)=eval o X.env:=by rfl)
   (hfew:((backTo cpos (starEach (e::es) X.env)).all (λx=>!x.1)&&(backToKw cpos (keywordEach [] X.env)).all (λx=>x.1.isSome)
     && decide ((e::es).length+([]:List Keyword).length+(if([]:List Keyword).isEmpty then 0 else 1)<30))=true:=by rfl)
   (hline:(apos.endLine==cpos.line)=true:=by rfl) (hs:starEach (e::es) X.env=(false,eval e X.env)::starEach es X.env:=by rfl) (hplain:(backTo cpos (starEach es X.env)).any (·.1)=false:=by rfl) :
   PE X (.Call (.Attribute o name apos) (e::es) [] cpos) (qS X.K T r to t):=by
 intro pins s σ H Q I h;refine wpAny_Call_method_late hbase hfew hline rfl (al (ho pins s σ H _ I h) λv s1 z89_=>?_);let#[x,H1,I1,r1,ty,q1]:=z89_;let#[h1,h2]:=tY I1 r1 ty;show#[T,id,pa,slot,hty,h1,h2,?_];have hA:=ha cpos pins s1 σ H1 _ I1 q1;rw[hs] at hA ⊢;refine Calls.callWith_builtin (by show(false || (backTo cpos (starEach es X.env)).any (·.1))=false; rw[hplain] <;> rfl) (Calls.evalArgs_plain ?_);exact al hA λus s2 z90_=>by let#[vs,H2,I2,r2,q2]:=z90_; exact hm pins s2 σ H2 x vs v us Q I2 r1 r2 q2
end
abbrev nu (X:Cx) (id:String) (r:V->List V->Hp->VK->Prop):Prop :=
 ∀(pins:List (Mc×Obj)) (s:Mb) (σ:St) (H:Hp) (x:V) (xs:List V) (v:Ma) (us:List Ma) (Q:VK),Inv X pins σ H s->bC x v->ao xs us->r x xs H Q ->
   wpAny 0x5 X.A (call (.builtin id) (v::us)) (EP X pins σ Q) X.xe s
def ao.one:∀{x:V} {us:List Ma},ao [x] us->∃u,us=[u]/\bC x u:=by
 intro x us h;cases h with
 | cons r t=>cases t; show#[5,r]
def ao.zero:∀{us:List Ma},ao [] us->us=[]
 | _,.nil=>rfl
def ao.dropLast {xs:List V} {us:List Ma} (h:ao xs us):ao xs.dropLast us.dropLast:=by
 induction h with
 | nil=>exact .nil
 | cons r t ih =>
   cases t with
   | nil=>exact .nil
   | cons q t'=>exact .cons r ih
def ao.rep {xs:List V} {us:List Ma} (h:ao xs us):∀k:Nat,ao (List.replicate k xs).flatten (List.replicate k us).flatten
 | 0=>.nil
 | k+1=>by rw[Kf,Kf,Kp,Kp];exact ao.append h (ao.rep h k)
def DW {α:Type} (l:List α):l.eraseIdx (l.length - 1)=l.dropLast:=by
 induction l with
 | nil=>rfl
 | cons a r ih =>
   cases r with
   | nil=>rfl
   | cons b r =>
     have e:(a::b::r).length - 1=((b::r).length - 1)+1:=by
       have h1:(a::b::r).length=r.length+2:=rfl;have h2:(b::r).length=r.length+1:=rfl
       lia
     rw[e,List.eraseIdx_cons_succ,ih]
     all_goals rfl
def xG (its:List Ma):∀(k:Nat) (acc:List Ma),
   List.foldl (λx1 x2=>x1++x2) acc.toArray (List.replicate k its.toArray)=(acc++(List.replicate k its).flatten).toArray
 | 0,acc=>by simp
 | k+1,acc=>by
   have e:acc.toArray++its.toArray=(acc++its).toArray:=by simp
   have e2:(acc++its)++(List.replicate k its).flatten=acc++(List.replicate (k+1) its).flatten:=by rw[Kf,Kp,Jn]
   rw[<- e2,<- xG its k (acc++its),<- e,Kf,L3]
section
variable {X:Cx} {pins:List (Mc×Obj)} {σ:St} {H:Hp} {s:Mb} {l b:Mc} {xs ys zs:List V}
def Inv.lset {its its':List Ma} {f:Array Ma->Array Ma} {t':Nat} (I:Inv X pins σ H s) (hH:H l=⇑(.lst xs))
   (e:s.heap.get? l=some { cls:=.type "list",data:=.seq its.toArray n }) (hf:f its.toArray=its'.toArray) (hv:ao ys its') (hz:ys.length<=sizeLine) :
   Inv X pins σ (upd H l (.lst ys)) { s with heap:=s.heap.update l (Obj.mapSeq f),toks:=t' }:=by
 have q:=PySem.IsL.update e f;rw[hf] at q;refine I.write (x:=l) (e:=l) (by rw[hH]; exact trivial) (.inl rfl) (λb' u hb hu=>(LS s.heap (Obj.mapSeq f) (Ne.symm hb))\hu) #[_,q] ?_;show#[hz,its',_,hv,q]
def Inv.lnew {its:List Ma} {t':Nat} (I:Inv X pins σ H s) (hv:ao ys its) (hz:ys.length<=sizeLine) :
   Inv X pins σ (upd H s.heap.objs.size (.lst ys)) { s with heap:=s.heap.push { cls:=.type "list",data:=.seq its.toArray },toks:=t' } :=
 I.laid (λ_ _ q=>JJ _ q) (JN _) #[hz,its,(0),hv,Jb _ rfl]
def Inv.fresh (I:Inv X pins σ H s):H s.heap.objs.size=none:=I.hok.fresh (JN _)
def Inv.lstM (I:Inv X pins σ H s) (hH:H l=⇑(.lst xs)):xs.length<=sizeLine/\∃(its:List Ma) (n:Nat),ao xs its/\xs.length=its.length/\s.heap.get? l=some { cls:=.type "list",data:=.seq its.toArray n }:=by let#[z,its,n,r,e]:=I.hok l _ hH;show#[z,its,n,r,r.length,e]
def vt (h:n<=sizeLine):Builtin.List.listTooLong n=false:=by unfold Builtin.List.listTooLong;exact JP ∅
end
section
variable {X:Cx}
abbrev DC:V->List V->Hp->VK->Prop:=λx vs H Q=>∃l xs y,x=↥l/\vs=[y]/\H l=⇑(.lst xs)/\xs.length<sizeLine/\Q .non (upd H l (.lst (xs++[y])))
def nR:nu X "list.append" DC:=by
 intro pins s σ H x vs v us Q I rx rv h;let#[l,xs,y,rfl,rfl,hH,hz,q]:=h;cases rx;let#[u,rfl,ru]:=rv.one;let#[z,its,n,r,hl,e]:=I.lstM hH;refine call_meets F.slot_list_append #[_,e,rfl] F.entry_list_append (F.args_list_append_2 _ _) (PySem.list_append l its.toArray n u (by rw[Ja]; lia)) #[e,?_];show#[.non,_,I.lset (its':=its++[u]) hH e 0x6 (r.append (.cons ru .nil)) ?_,rfl,q];rw[JF,List.length_singleton]
 lia
abbrev FZ:V->List V->Hp->VK->Prop:=λx vs H Q=>∃l b xs zs,x=↥l/\vs=[↥b]/\H l=⇑(.lst xs)/\H b=⇑(.lst zs)/\xs.length+zs.length<=sizeLine/\Q .non (upd H l (.lst (xs++zs)))
def Ac:nu X "list.extend" FZ:=by
 intro pins s σ H x vs v us Q I rx rv h;let#[l,b,xs,zs,rfl,rfl,hH,hB,hz,q]:=h;cases rx;let#[u,rfl,ru]:=rv.one;cases ru;let#[z,its,n,r,hl,e]:=I.lstM hH;let#[z2,its2,n2,r2,hl2,e2]:=I.lstM hB;have hsz:its.toArray.size+its2.toArray.size<=sizeLine:=by rw[Ja,Ja]; lia
 have hlong:¬ (!its.toArray.isEmpty&&Builtin.List.listTooLong (its.toArray.size+its2.toArray.size))=true:=by rw[vt hsz,Jx];exact Je
 refine call_meets F.slot_list_extend #[_,e,rfl] F.entry_list_extend (F.args_list_extend_2 _ _)
   (AutoSeq1.list_extend_list_list_0 l its.toArray n b its2.toArray n2 hlong (by rw[Ja]; lia) ∅) #[e,e2,?_]
 show#[.non,_,I.lset (its':=its++its2) hH e 0x6 (r.append r2) ?_,rfl,q];rw[JF]
 lia
abbrev As:V->List V->Hp->VK->Prop:=λx vs H Q=>∃l xs y,x=↥l/\vs=[]/\H l=⇑(.lst xs)/\xs[xs.length - 1]?=⇑y/\Q y (upd H l (.lst xs.dropLast))
def IG:nu X "list.pop" As:=by
 intro pins s σ H x vs v us Q I rx rv h;let#[l,xs,y,rfl,rfl,hH,hy,q]:=h;cases rx;have hus:=rv.zero;subst hus;let#[z,its,n,r,hl,e]:=I.lstM hH;let#[u,hu,ru]:=r.get hy;have hy':its.toArray[its.toArray.size - 1]?=⇑u:=by show its.toArray[its.length - 1]?=⇑u;rw[<- La,<- hl];exact hu
 refine call_meets F.slot_list_pop #[_,e,rfl] F.entry_list_pop (F.args_list_pop_1 _) (MeetsSeq.list_pop_last l its.toArray n u hy' (by rw[Ja]; lia)) #[e,?_];show#[y,_,I.lset (its':=its.dropLast) hH e ?_ r.dropLast ?_,ru,q]
 . show its.toArray.eraseIdxIfInBounds (its.toArray.size - 1)=its.dropLast.toArray;rw[Ja,List.eraseIdxIfInBounds_toArray,DW]
 . rw[List.length_dropLast]
   lia
abbrev HR:R2:=λx y H Q=>∃l b xs zs,x=↥l/\y=↥b/\H l=⇑(.lst xs)/\H b=⇑(.lst zs)/\xs.length+zs.length<=sizeLine/\∀p,H p=none->Q ↥p (upd H p (.lst (xs++zs)))
def dh:bU X (binaryOp .Add) HR:=by
 intro pins s σ H x y v u Q I rx ry h;let#[l,b,xs,zs,rfl,rfl,hH,hB,hz,q]:=h;cases rx;cases ry;let#[z,its,n,r,hl,e]:=I.lstM hH;let#[z2,its2,n2,r2,hl2,e2]:=I.lstM hB;refine PySem.P.add_list e e2 ?_ (by rw[Ja,Ja]; lia);have ea:its.toArray++its2.toArray=(its++its2).toArray:=by simp
 rw[ea];show#[↥_,_,I.lnew (t':=s.toks) (r.append r2) (by rw[JF]; lia),rfl,q _ I.fresh]
abbrev F0:R2:=λx y H Q=>∃l k xs,x=↥l/\y=.int k/\H l=⇑(.lst xs)/\-(2 ^ 63)<=k/\k<2 ^ 63/\xs.length * k.toNat<=sizeLine /\
 ∀p,H p=none->Q ↥p (upd H p (.lst (List.replicate k.toNat xs).flatten))
def vC {α:Type} (xs:List α) (k:Nat):(List.replicate k xs).flatten.length=k * xs.length:=by
 induction k with
 | zero=>simp
 | succ k ih=>rw[Kf,Kp,JF,ih,Nat.succ_mul,Nat.add_comm]
def jo:bU X (binaryOp .Mult) F0:=by
 intro pins s σ H x y v u Q I rx ry h;let#[l,k,xs,rfl,rfl,hH,h1,h2,hz,q]:=h;cases rx;let#[t,rfl]:=ry;let#[z,its,n,r,hl,e]:=I.lstM hH;have hlen:its.toArray.size * k.toNat<=sizeLine:=by rw[Ja,<- hl]; exact hz
 have hcap:¬ its.toArray.size * k.toNat > (2 ^ 63 - 1) / 8:=by
   have:(sizeLine:Nat)<=(2 ^ 63 - 1) / 8:=by decide
   lia
 have hfit:¬ (!Builtin.List.listFitsIndex k)=true:=by rw[fitsIndex_both h1 h2];exact Je
 have hlong:¬ Builtin.List.listTooLong (its.toArray.size * k.toNat)=true:=by rw[vt hlen];exact Je
 have hnew:List.foldl (λx1 x2=>x1++x2) 0xA (List.replicate (if its.toArray.isEmpty=true then 0 else k.toNat) its.toArray)=(List.replicate k.toNat its).flatten.toArray:=by
   have f0:∀m:Nat,List.foldl (λx1 x2=>x1++x2) 0xA (List.replicate m its.toArray)=(List.replicate m its).flatten.toArray:=λm=>by have:=xG its m [];rw[Ld] at this;exact this
   rw[f0];cases its with
   | nil=>simp
   | cons a r'=>rw[JI 0x6]
 refine wpAny_binaryOp_repeat_ref (T:="list") (U:="int") #[] #[_,e,rfl] (λs'=>typeIs_int s' k t) noFill_list_mul F.fills_int_mul F.slot_int_rmul repeat_list F.slot_int_index.lookup
   (call_meets F.slot_int_rmul (typeIs_int s k t) F.entry_int_rmul (F.args_int_rmul_2 _ _) (int___rmul___int_list k t l its.toArray n)
     #[e,rfl,#[_,e,rfl],call_meets F.slot_list_mul #[_,e,rfl] F.entry_list_mul (F.args_list_mul_2 _ _) (AutoListH.list___mul___list_int_3 l its.toArray n k t hfit hcap hlong) #[e,?_]])
 rw[hnew];show#[↥_,_,I.lnew (t':=s.toks) (r.rep k.toNat) (by rw[vC,Nat.mul_comm]; exact hz),rfl,q _ I.fresh]
end
end L2
namespace Att
open PySem PySem.W PySem.Calls PyProof.Rows
def FE {P:Params} {h:Heap}:∀(ns:List Int) (vs:List Ma),WellAll P h vs (ns.map WData.int)->IntsAre vs ns:=by
 intro ns
 induction ns with
 | nil =>
   intro vs w;rw[Kb] at w;cases w;exact .nil
 | cons n ns ih =>
   intro vs w;rw[Jd] at w;cases w with
   | cons a b =>
     cases a;exact .cons _ _ (ih _ b)
def HH {l:OpenLaw} {n:Nat} (hn:l.most=⇑n) {P:Params} {h:Heap} {args:List WData} {vals:List Ma}
   (hpre:l.row.toRowW.claim.pre args=true) (hwl:WellAll P h vals args) :
   ∃a vs ns,vals=[Value.ref a]/\args=[WData.list (ns.map WData.int)]/\h.get? a=some { cls:=.type "list",data:=.seq vs.toArray }/\IntsAre vs ns/\ns.length<=n:=by
 have g8:WShape.hasAll [] args [.list .int]=true:=(pre_splitW hpre).1;have hc:l.pre.holds [] { args:=args }=true:=(pre_splitW hpre).2;let#[d,r,rfl,h1,h2]:=hasAllW_cons g8;obtain rfl:=hasAllW_nil h2;let#[xs,rfl,h3]:=hasW_list h1;let#[ns,rfl]:=items_int h3;have hlen:ns.length<=n:=by
   unfold OpenLaw.pre at hc;have h4:(WTm.not (.lt (.lit (.int (n:Int))) (.len (.arg 0)))).holds [] { args:=[.list (ns.map .int)] }=true:=by have h4:=(holds_andW hc).1;rw[hn] at h4;exact h4
   have h5:=condW_of h4 (w_not (w_lt w_lit (w_len_list (w_arg rfl))));rw[JE] at h5;refine Nat.le_of_not_lt λq=>?_;have q':(n:Int)<((ns.length:Nat):Int):=by lia
   first
     | (rw[JG q'] at h5; exact absurd h5 #[])
     | (simp at h5; lia)
 cases hwl with
 | cons w1 w2 =>
   cases w2;cases w1 with
   | list ho hall=>show#[4,ns,7,ho,FE ns _ hall,hlen]
def Bt (l:OpenLaw) (args:List WData):l.row.toRowW.claim.post args (.bool true) args=true :=
 postW_of (r:=l.row.toRowW) (X:=(true==true))
   (show WShape.has [] (.bool true) .bool=true by first|rfl|decide|simp [WShape.has,WShape.arms,WShape.armsAll])
   (show(WTm.eq .res (.lit (.bool true))).value [] { args:=args,res:=⇑(.bool true),after:=args }=⇑(.bool (true==true)) from w_eq_bool (w_res rfl) w_lit) rfl
def attach_call {l:OpenLaw} {n:Nat} {q:Program} {loose:List Str} {XP:(Str->JK Ma)->Heap->Prop} {YP:World->Heap->Prop} {d:DefRec}
   (hn:l.most=⇑n) (hdf:d.params.defaults=[])
   (call:∀(w:World) (s₀ s₁:Mb) (mg mb:Str->JK Ma) (fa:Mc) (o:Obj) (pm cd doc:Ma) (a:Mc) (vs:List Ma) (ns:List Int),
     Ground q loose [] XP w s₀ mg mb s₁.heap->YP w s₁.heap ->
     s₁.heap.get? fa=⇑o->o.data=.func (docDef d.name d.params d.body d.scope pm cd doc)->s₁.heap.CodeRec cd d.name->mg d.name=⇑↥fa ->
     s₁.heap.get? a=some { cls:=.type "list",data:=.seq vs.toArray }->IntsAre vs ns->ns.length<=n->s₁.gens=0xA ->
     codeAny (model l.prog w) callerA (.call ↥fa #[[↥a],[]]) (λr s'=>r=.ok (.ret (.bool true))/\OldK s₁.heap s'.heap/\s'.os=s₁.os/\AllBare s'.gens) s₁) :
   WalkO q loose XP YP l.row.toRowW d [] (λf vs=>PySem.call f vs):=by
 intro w s₀ s₁ mg mb G Y fa o pm cd doc dV kV ho hd hcd hD hmg hg args vals as hpre hlay hrd hwl hlo;obtain rfl:dV=.none:=Dflts.none hD hdf;obtain rfl:kV=.none:=Dflts.noKw hD;let#[a,vs,ns,rfl,rfl,hobj,hints,hlen]:=HH hn hpre hwl;refine enter_call (MC (call w s₀ s₁ mg mb fa o pm cd doc a vs ns G Y ho (fd_plain hd) hcd hmg hobj hints hlen hg) λr s' hq=>?_);let#[rfl,h2,h3,h4]:=hq;show#[.inl #[.bool true,.bool true,[],rfl,λ_=>rfl,.bool true,Bt l _,λ_=>#[List.Pairwise.nil,λ_ hm=>(nomatch hm)]],h2,h3,h4]
end Att
namespace L2
open PySem PySem.Spec PyProof.Rows
def Fa:∀{vs:List Ma} {ns:List Int},IntsAre vs ns->ao (ns.map V.int) vs:=by
 intro vs ns h
 induction h with
 | nil=>exact .nil
 | cons n t h ih=>exact .cons #[t,rfl] ih
abbrev oJ (H:Hp):Prop:=∀b,H b=none\/∃o xs,H b=⇑(.frz o (.lst xs))
variable {x:Str}
def DJ {P:Program} {w:World} {K:Md} {mg mb:Str->JK Ma} {CX:fj} {k:Nat} {fa a:Mc} {fd:FuncData} {sp:Sp} {s₁:Mb} {vs:List Ma} {ns:List Int}
   (KX:K.In s₁.heap) (hns:s₁.heap.Ns mainGlobals mg) (hb:s₁.heap.Ns builtinsNs mb) (hbb:∀x:Str,x≠"__name__"->mb x=bootBuiltins x) (hlim:s₁.heap.NoLimit) (hg:s₁.gens=0xA)
   (ha:s₁.heap.get? a=some { cls:=.type "list",data:=.seq vs.toArray }) (hi:IntsAre vs ns) (hl:ns.length<=sizeLine) (hr:Room k callerA)
   (F:∀base:Heap,K.In base->base.Ns mainGlobals mg->FnOk P w K mg base CX k fa fd [x] sp) (hbind:∀(s:Mb) (u:Ma),BindsTo s fd #[[u],[]] [(x,u)])
   (hsp:∀H:Hp,oJ H->aE K H a (ns.map V.int)->sp [↥a] H (λv _=>v=.bl true) λ_ _ _=>False)
   (hCX:∀H e s',CX [] H s₁ (λ_ _ _=>False) e s'->False) :
   codeAny (model P w) callerA (.call ↥fa #[[↥a],[]]) (λr s'=>r=.ok (.ret (.bool true))/\OldK s₁.heap s'.heap/\s'.os=s₁.os/\AllBare s'.gens) s₁:=by
 have rv:=Fa hi;have lenV:=hi.length
 -- from an abstract heap in which nothing but the script may be tracked
 have core:∀H:Hp,oJ H->aE K H a (ns.map V.int)->cC P w H s₁.heap->(∀b,H b≠none->b=a)->(H a≠none->K.lookup a=none) ->
     codeAny (model P w) callerA (.call ↥fa #[[↥a],[]]) (λr s'=>r=.ok (.ret (.bool true))/\OldK s₁.heap s'.heap/\s'.os=s₁.os/\AllBare s'.gens) s₁:=by
   intro H hO hS hok hA hK;have base_of:∀{b:Mc} {o:Obj},s₁.heap.get? b=⇑o->H b=none->(gg s₁.heap H).get? b=⇑o:=λe n=>Ia e n;have noA:∀{b:Mc} {o:Obj} {es:Array DictEntry} {ep:Nat},s₁.heap.get? b=⇑o->o.data=.dict es ep->H b=none:=λ{b o es ep} e d=>by
     cases q:H b with
     | none=>rfl
     | some u =>
       have e':b=a:=hA b (by rw[q]; simp);subst e';rw[ha] at e; cases e;have d':Data.seq vs.toArray _=Data.dict es ep:=d;cases d'
   have nsK:∀{b:Mc} {m:Str->JK Ma},s₁.heap.Ns b m->(gg s₁.heap H).Ns b m:=λ{b m} z93_=>by let#[o,es,ep,e,d,r]:=z93_; show#[o,es,ep,base_of e (noA e d),d,r]
   have hKb:K.In (gg s₁.heap H):=λb o e=>base_of (KX b o e) (by
     cases q:H b with
     | none=>rfl
     | some u =>
       have e':b=a:=hA b (by rw[q]; simp);subst e';rw[hK (by rw[q]; simp)] at e; cases e)
   have hM:Mod K mg (gg s₁.heap H):=#[hKb,nsK hns,#[mb,nsK hb,hbb],by let#[mc,h1,h2]:=hlim; show#[mc,nsK h1,h2]]
   have e0:Env0 P w K mg (gg s₁.heap H) callerA [] s₁ H:=#[rfl,hM,λb o e=>C3 e,Nat.le_of_eq (Er _ _),trivial,λb hb=>absurd (show b∈([]:List Mc) from hb) 0x6,hok,.of_eq hg]
   refine MC ((F _ hKb (nsK hns)).run callerA [] s₁ H #[[↥a],[]] [↥a] [↥a] _ _ hr e0 (hbind s₁ ↥a) (.cons rfl .nil) (hsp H hO hS)) λr s' h=>?_;cases r with
   | error e=>exact(hCX H e s' h).elim
   | ok fl =>
     cases fl with
     | next=>exact False.elim h
     | brk=>exact False.elim h
     | cont=>exact False.elim h
     | ret u =>
       let#[v,H',os,bare,un,hok',r',q]:=h;have q':v=.bl true:=q;subst q';obtain rfl:u=Value.bool true:=r';show#[rfl,OldK.of_keep λb o e=>?_,os,bare];cases q:H b with
       | none=>exact un.keep b o e q (by intro z; exact absurd (show b∈([]:List Mc) from z) 0x6) 0x6
       | some u =>
         rcases hO b with z|⟨ob,xs,z⟩
         . rw[q] at z; cases z
         . have z2:=un.frzs b ob _ z;let#[e1,_]:=hok b _ z;let#[e2,_]:=hok' b _ z2;rw[e] at e1; cases e1;exact e2
 cases hk:K.lookup a with
 | some o =>
   -- the script is one of the module's own objects
   have e:=KX a o hk;rw[ha] at e;cases e;refine core (λ_=>none) (λ_=>.inl rfl) (.inr #[_,vs.toArray,_,hk,15,by rw[Ja,lenV]; exact hl,by simpa using rv]) (λb u z=>by have z':(none:JK HO)=⇑u:=z; cases z') (λb z=>absurd rfl z) λz=>absurd rfl z
 | none =>
   refine core (λb=>if b=a then ⇑(.frz { cls:=.type "list",data:=.seq vs.toArray } (.lst (ns.map V.int))) else none) (λb=>?_) (.inl (.inr #[{ cls:=.type "list",data:=.seq vs.toArray },JR rfl])) (λb u z=>?_) (λb z=>?_) λ_=>hk
   . by_cases hb:b=a
     . exact .inr #[4,JR hb]
     . exact .inl (JI hb)
   . by_cases hb:b=a
     . have z':=(JR hb).symm.trans z;cases z';subst hb;show#[ha,by rw[JE]; exact hl,vs,_,rv,ha]
     . have z':=(JI hb).symm.trans z;cases z'
   . by_cases hb:b=a
     . exact hb
     . exact absurd (JI hb) z
noncomputable abbrev KOf {K:Md} {h:Heap} (_:K.In h):Md:=K
def GR {l:PySem.W.OpenLaw} {n k:Nat} {q:Program} {loose:List Str} {XP:(Str->JK Ma)->Heap->Prop} {YP:World->Heap->Prop} {d:DefRec} {K:Params->Md} {CX:World->fj} {sp:World->Sp} 
   (hn:l.most=⇑n) (hn2:n<=sizeLine) (hdf:d.params.defaults=[]) (hr:Room k callerA)
   (hY:∀(w:World) (h:Heap),YP w h->(K w.params).In h)
   (F:∀(w:World) (mg:Str->JK Ma) (fa:Mc) (h:Heap),(K w.params).In h->h.Ns mainGlobals mg->mg d.name=⇑↥fa ->
     ∃fd:FuncData,(∀(s:Mb) (u:Ma),BindsTo s fd #[[u],[]] [(x,u)]) /\
       ∀base:Heap,(K w.params).In base->base.Ns mainGlobals mg->FnOk l.prog w (K w.params) mg base (CX w) k fa fd [x] (sp w))
   (hsp:∀(w:World) (H:Hp) (a:Mc) (ns:List Int),ns.length<=n->oJ H->aE (K w.params) H a (ns.map V.int)->sp w [↥a] H (λv _=>v=.bl true) λ_ _ _=>False)
   (hCX:∀(w:World) (H:Hp) (s:Mb) (e:Ma) (s':Mb),CX w [] H s (λ_ _ _=>False) e s'->False) :
   PySem.W.WalkO q loose XP YP l.row.toRowW d [] (λf vs=>PySem.call f vs):=by
 refine Att.attach_call hn hdf λw s₀ s₁ mg mb fa o pm cd doc a vs ns G Y ho hd hcd hmg hobj hints hlen hg=>?_;have KX:=hY w _ Y;let#[fd,hb,hF]:=F w mg fa _ KX G.T.g hmg;exact DJ KX G.T.g G.T.b G.T.builtins G.T.nolimit hg hobj hints (Jj hlen hn2) hr hF hb (λH hO hS=>hsp w H a ns hlen hO hS) λH e s'=>hCX w H s₁ e s'
def walk_ofK {l:PySem.W.OpenLaw} {n k:Nat} {q:Program} {loose:List Str} {XP:(Str->JK Ma)->Heap->Prop} {YP:World->Heap->Prop} {d:DefRec} {K:Params->Md} {CX:fj} {sp:Md->Sp} 
   (hn:l.most=⇑n) (hn2:n<=sizeLine) (hdf:d.params.defaults=[]) (hr:Room k callerA)
   (hY:∀(w:World) (h:Heap),YP w h->(K w.params).In h)
   (F:∀(w:World) (mg:Str->JK Ma) (fa:Mc) (h:Heap),(K w.params).In h->h.Ns mainGlobals mg->mg d.name=⇑↥fa ->
     ∃fd:FuncData,(∀(s:Mb) (u:Ma),BindsTo s fd #[[u],[]] [(x,u)]) /\
       ∀base:Heap,(K w.params).In base->base.Ns mainGlobals mg->FnOk l.prog w (K w.params) mg base CX k fa fd [x] (sp (K w.params)))
   (hsp:∀(K:Md) (H:Hp) (a:Mc) (ns:List Int),ns.length<=n->oJ H->aE K H a (ns.map V.int)->sp K [↥a] H (λv _=>v=.bl true) λ_ _ _=>False)
   (hCX:∀(H:Hp) (s:Mb) (e:Ma) (s':Mb),CX [] H s (λ_ _ _=>False) e s'->False) :
   PySem.W.WalkO q loose XP YP l.row.toRowW d [] (λf vs=>PySem.call f vs) :=
 GR (K:=K) (CX:=λ_=>CX) (sp:=λw=>sp (K w.params)) hn hn2 hdf hr hY F (λw H a ns h1 h2 h3=>hsp (K w.params) H a ns h1 h2 h3) λ_ H s e s'=>hCX H s e s'
abbrev gf (s:Stmt) (j:Nat):Stmt:=match s with
 | .ClassDef _ _ _ body _ _ _ _ _ _ _=>body.getD j (.Pass #[(0),(0),(0),(0)])
 | _=>.Pass #[(0),(0),(0),(0)]
abbrev dH (s:Stmt):Arguments:=match s with
 | .FunctionDef _ a _ _ _ _ _ _ _ _=>a
 | _=>{ posonlyargs:=[],args:=[],vararg:=none,kwonlyargs:=[],kw_defaults:=[],kwarg:=none,defaults:=[] }
abbrev aV (s:Stmt):List Stmt:=match s with
 | .FunctionDef _ _ b _ _ _ _ _ _ _=>b
 | _=>[]
abbrev az (s:Stmt):Scope:=match s with
 | .FunctionDef _ _ _ _ _ _ sc _ _ _=>sc
 | _=>{ kind:=.function,names:=[],isGenerator:=false,isCoroutine:=false }
noncomputable abbrev CX0:fj:=λ_ _ _ _ _ _=>False
noncomputable abbrev E0:XK:=λ_ _ _=>False
def eO {X:Cx}:j7 CX0 X E0:=λ_ _ _ _ _ _ _ h=>h.elim
structure Fun (K:W.Frag) (x qual:Str) (st:Stmt) (f:Addr) (fd:FuncData):Prop where
 ex:∃(oc:Value) (od:Option Addr) (kV doc pm:Value) (an:Option Addr) (cdv ct:Value) (osl:Array (Option Value)),
   fd=PySem.W.fnOf x qual (dH st) (aV st) (az st) .none kV doc pm an cdv ct/\K.lookup f=⇑#[oc,od,.func fd,osl]/\PySem.W.codeIn K cdv qual=true
 kp:PySem.W.keepIn K ↥f=true
variable {qual:Str}
section
variable {P:Program} {w:World} {K:Md} {mg:Str->JK Ma} {base:Heap}
def Fun.ok {st:Stmt} {f:Mc} {fd:FuncData} {N ps:List Str} {k:Nat} {sp:Sp} (F:Fun K x qual st f fd) (S:FnScope N ps (az st)) (len:∀vs H Q E,sp vs H Q E->vs.length=ps.length)
   (hbody:∀(cdv:Ma) (A:Around) (outer:List Env) (s:Mb) (H:Hp) (vs:List V) (Q:VK) (E:XK),Room k (A.deeper (envOfC qual (az st) s.heap.objs.size f cdv))->sp vs H Q E ->
     ∃t,aY (jW CX0 P w K mg base N qual (az st) f cdv A outer s H E).nox (aV st) t/\t { nx:=λ_ H'=>Q .non H',rt:=Q } (ia N vs) H):FnOk P w K mg base CX0 (k+1) f fd ps sp:=by
 let#[oc,od,kV,doc,pm,an,cdv,ct,osl,rfl,lk,hcd]:=F.ex;refine Bj lk hcd S len λA outer s H vs Q E hr hsp=>?_;let#[t,h,q]:=hbody cdv A outer s H vs Q E hr hsp;show#[t,h.nox,q]
def Fun.binds {st:Stmt} {f:Mc} {fd:FuncData} {ps:List Str} (F:Fun K x qual st f fd)
   (h:∀(kV doc pm:Ma) (an:JK Mc) (cdv ct:Ma) (us:List Ma),us.length=ps.length->bindArgs (PySem.W.fnOf x qual (dH st) (aV st) (az st) .none kV doc pm an cdv ct) #[us,[]]=pure (ps.zip us)):fP K fd ps []:=by
 let#[oc,od,kV,doc,pm,an,cdv,ct,osl,rfl,lk,hcd]:=F.ex;exact .all (h kV doc pm an cdv ct)
def ju {st:Stmt} {f:Mc} {oc:Ma} {od an:JK Mc} {osl:Array (JK Ma)} {kV doc pm cdv ct:Ma} (l:K.lookup f=⇑#[oc,od,.func (PySem.W.fnOf x qual (dH st) (aV st) (az st) .none kV doc pm an cdv ct),osl])
   (c:PySem.W.codeIn K cdv qual=true) (k:PySem.W.keepIn K ↥f=true):Fun K x qual st f (PySem.W.fnOf x qual (dH st) (aV st) (az st) .none kV doc pm an cdv ct):=#[#[oc,od,kV,doc,pm,an,cdv,ct,osl,rfl,l,c],k]
end
def wF {n:Nat} (h:n<=1000):n<sizeLine:=Nat.lt_of_le_of_lt h #[]
section
variable {X:Cx}
def pv (i:Nat) {pos:Pos} (hN:X.N[i]?=⇑x:=by rfl) (hv:nK X.env.scope x:=by first|exact Or.inl rfl|exact Or.inr 0x8|exact Or.inr (Or.inr rfl)) (hd:(x==("__debug__":Str))=false:=by decide)
   (hcd:(x==("__classdict__":Str))=false:=by decide):PE X (.Name x pos) (x9 i):=BP hN hv hd hcd
end
def lR {A B:Prop} (h:B):if false=true then A else B:=by rw[JI Je];exact h
def rV {A B:Prop} (h:A):if true=true then A else B:=by rw[JR rfl];exact h
def ID {c A B:Prop} [Decidable c] (h1:c->A) (h2:¬ c->B):if c then A else B:=by
 by_cases h:c
 . rw[JR h];exact h1 h
 . rw[JI h];exact h2 h
abbrev aA (H H':Hp):Prop:=∀b o,H b=⇑o->H' b=⇑o
def aA.refl (H:Hp):aA H H:=λ_ _ h=>h
def aA.trans {H H1 H2:Hp} (a:aA H H1) (b:aA H1 H2):aA H H2:=λc o h=>b c o (a c o h)
def aA.free {H H':Hp} (e:aA H H') {l:Mc} (h:H' l=Option.none):H l=Option.none:=by
 cases q:H l with
 | none=>rfl
 | some o =>
   rw[e l o q] at h;cases h
def aA.seq {K:Md} {H H':Hp} {a:Mc} {xs:List V} (e:aA H H') (h:aE K H a xs):aE K H' a xs:=by
 rcases h with(h|⟨o,h⟩)|h
 . exact .inl (.inl (e _ _ h))
 . exact .inl (.inr #[o,e _ _ h])
 . exact .inr h
end L2
set_option maxHeartbeats 4000000
namespace L2
open PySem PySem.Spec PyProof.Rows
abbrev eE:List (Str×NameKind)->List (Str×Mc)->List (Str×Mc)->List (Str×Mc)
 | [],_,acc=>acc
 | (n,k)::r,cells,acc=>if k==.free then eE r cells ((n,(cells.lookup n).getD 0)::acc) else eE r cells acc
def vT {env:Env}:∀(names:List (Str×NameKind)) (acc:List (Str×Mc)),(∀y∈names,y.2=.free->∃c,env.cells.lookup y.1=⇑c) ->
   (forIn names acc λx r=>(match x with|(name,kind)=>if(kind==NameKind.free)=true then do let a <- cellOf env name; pure (ForInStep.yield ((name,a)::r)) else pure (ForInStep.yield r):Sem (ForInStep (List (Str×Mc)))))=(pure (eE names env.cells acc):Sem (List (Str×Mc)))
 | [],acc,_=>rfl
 | (n,k)::r,acc,h=>by
   have ih:=λacc=>vT (env:=env) r acc λy hy=>h y (JY _ hy);rw[LB];unfold eE;cases hk:(k==NameKind.free) with
   | true =>
     let#[c,hc]:=h (n,k) JZ ↑hk;have hc:env.cells.lookup n=⇑c:=hc;have e:cellOf env n=pure c:=by unfold cellOf; rw[hc]
     simp only[hk,if_true,e,pure_bind,hc,Option.getD_some];exact ih _
   | false =>
     simp only[hk,Lx,if_false,pure_bind];exact ih _
variable {scope:Scope}
def BN {env:Env} (h:∀y∈scope.names,y.2=.free->∃c,env.cells.lookup y.1=⇑c):closureFor scope env=pure (eE scope.names env.cells []):=by
 have e:=vT (env:=env) scope.names [] h;unfold closureFor
 first
   | (rw[e]; rfl)
   | (simp only[e]; rfl)
   | exact(JW (λt=>t >>= λr=>pure r) e)
def p8 {cells:List (Str×Mc)}:∀(names:List (Str×NameKind)) (acc:List (Str×Mc)),(∀y∈names,y.2=.free->∃c,cells.lookup y.1=⇑c)->(∀x c,acc.lookup x=⇑c->cells.lookup x=⇑c) ->
   ∀x c,(eE names cells acc).lookup x=⇑c->cells.lookup x=⇑c
 | [],acc,_,h2=>h2
 | (n,k)::r,acc,h,h2=>by
   unfold eE;cases hk:(k==NameKind.free) with
   | true =>
     rw[JR rfl];refine p8 r _ (λy hy=>h y (JY _ hy)) λx c e=>?_;let#[c',hc]:=h (n,k) JZ ↑hk;have hc:cells.lookup n=⇑c':=hc;rw[Kg] at e;cases hx:x==n with
     | true =>
       have hx':x=n:=↑hx
       rw[hx] at e;rw[hx',hc];simpa [hc] using e
     | false =>
       rw[hx] at e;exact h2 x c e
   | false =>
     rw[JI 0x6];exact p8 r _ (λy hy=>h y (JY _ hy)) h2
def ou {cells:List (Str×Mc)} {x:Str}:∀(names:List (Str×NameKind)) (acc:List (Str×Mc)),(acc.lookup x).isSome=true->((eE names cells acc).lookup x).isSome=true
 | [],_,h=>h
 | (n,k)::r,acc,h=>by
   unfold eE;split
   . refine ou r _ ?_;rw[Kg];cases x==n <;> simp [h]
   . exact ou r _ h
def qm {cells:List (Str×Mc)} {x:Str}:∀(names:List (Str×NameKind)) (acc:List (Str×Mc)),(x,NameKind.free)∈names->((eE names cells acc).lookup x).isSome=true
 | (n,k)::r,acc,h=>by
   unfold eE;rcases JT.mp h with e|e
   . cases e;rw[JR 0x0];exact ou r _ (by rw[Kg]; simp)
   . split
     . exact qm r _ e
     . exact qm r _ e
abbrev dU (X:Cx) (N':List Str) (scope:Scope) (C:Mc) (s:Mb) (H:Hp) (fp:List Mc):Cx :=
 { X with N:=N',s₀:=s,H₀:=H,env:=compEnvC scope (eE scope.names X.env.cells []) C X.env,outer:=X.stack,stack:=X.stack,ex:=fp,fn:=λ_=>false,pn:=[],xe:=λ_ _=>False }
abbrev cH (js:List (JK Nat)) (σ:St):St:=js.map λo=>o.bind λj=>(σ[j]?).join
abbrev m8 (scope osc:Scope) (N' N:List Str) (js:List (JK Nat)):Bool :=
 (scope.kind==.function)&&(scope.names.all λy=>y.2 != .cell&&(if y.2==.local then scope.names.lookup y.1==some .local else true) &&
   (if y.2==.free then osc.names.lookup y.1==some .cell || osc.names.lookup y.1==some .free else true)) &&
 js.length==N'.length&&((js.zip N').all λq=>match q.1 with
   | none=>true
   | some j=>N[j]?==⇑q.2&&(osc.names.lookup q.2==some .cell || osc.names.lookup q.2==some .free)&&scope.names.lookup q.2==some .free)
structure CompOk (scope osc:Scope) (N' N:List Str) (js:List (Option Nat)):Prop where
 kind:scope.kind=.function
 nocell:∀y∈scope.names,y.2≠.cell
 names:∀y∈scope.names,y.2=.local->scope.names.lookup y.1=some .local
 free:∀y∈scope.names,y.2=.free->osc.names.lookup y.1=some .cell\/osc.names.lookup y.1=some .free
 len:js.length=N'.length
 slots:∀(i j:Nat) (x:Str),js[i]?=⇑⇑j->N'[i]?=⇑x->N[j]?=⇑x/\(osc.names.lookup x=some .cell\/osc.names.lookup x=some .free)/\scope.names.lookup x=some .free
variable {N':List Str} {js:List (JK Nat)}
def Cv {osc:Scope}{N:List Str}(h:m8 scope osc N' N js=true):CompOk scope osc N' N js:=by
 unfold m8 at h;rw[Jl,Jl,Jl,Kh,Kh] at h;obtain⟨⟨⟨h1,h2⟩,h3⟩,h4⟩:=h;show#[by cases hk:scope.kind <;> first|rfl|(rw[hk] at h1; cases h1),λy hy e=>?_,λy hy e=>?_,λy hy e=>?_,by simpa using h3,λi j x e1 e2=>?_]
 . have q:=h2 y hy;rw[e] at q;simp at q
 . have q:=h2 y hy;rw[Jl,Jl] at q;have q2:=q.1.2;rw[e] at q2;simpa using q2
 . have q:=h2 y hy;rw[Jl,Jl] at q;have q2:=q.2;rw[e] at q2;simpa using q2
 . have hm:(⇑j,x)∈js.zip N':=by refine JM (i:=i) ?_;rw[Jz];show#[e1,e2]
   have q:=h4 _ hm;simp only[Jl,Bool.or_eq_true,M8] at q;show#[q.1.1,q.1.2,q.2]
def wL {env:Env}:∀(names:List (Str×NameKind)) (x:Str),names.lookup x=some .free ->
   ((names.map λ(n,k)=>if(k==NameKind.free&&env.scope.kind==.function&&env.kindOf n==some .cell) then(n,NameKind.cell) else(n,k)).lookup x=some .cell \/
     (names.map λ(n,k)=>if(k==NameKind.free&&env.scope.kind==.function&&env.kindOf n==some .cell) then(n,NameKind.cell) else(n,k)).lookup x=some .free)
 | [],x,h=>by simp at h
 | (n,k)::r,x,h=>by
   have ih:=wL (env:=env) r x;rw[Jd];rw[Kg] at h;by_cases hb:(k==NameKind.free&&env.scope.kind==.function&&env.kindOf n==some .cell)=true
   . have e1:(if(k==NameKind.free&&env.scope.kind==.function&&env.kindOf n==some .cell)=true then(n,NameKind.cell) else(n,k))=(n,NameKind.cell):=JR hb;simp only[e1,Kg];cases hx:x==n with
     | true=>exact .inl rfl
     | false =>
       rw[hx] at h;exact ih h
   . have e1:(if(k==NameKind.free&&env.scope.kind==.function&&env.kindOf n==some .cell)=true then(n,NameKind.cell) else(n,k))=(n,k):=JI hb;simp only[e1,Kg];cases hx:x==n with
     | true =>
       rw[hx] at h;exact .inr h
     | false =>
       rw[hx] at h;exact ih h
def vL {scope:Scope} {env:Env}:∀(names:List (Str×NameKind)) (x:Str),(∀y∈names,y.2≠.cell) ->
   ((names.map λ(n,k)=>if(k==NameKind.free&&env.scope.kind==.function&&env.kindOf n==some .cell) then(n,NameKind.cell) else(n,k)).lookup x=some .cell \/
     (names.map λ(n,k)=>if(k==NameKind.free&&env.scope.kind==.function&&env.kindOf n==some .cell) then(n,NameKind.cell) else(n,k)).lookup x=some .free)->(x,NameKind.free)∈names
 | [],x,_,h=>by simp at h
 | (n,k)::r,x,hc,h=>by
   have ih:=vL (scope:=scope) (env:=env) r x λy hy=>hc y (JY _ hy);rw[Jd] at h;by_cases hb:(k==NameKind.free&&env.scope.kind==.function&&env.kindOf n==some .cell)=true
   . have hkf:k=.free:=by rw[Jl,Jl] at hb;simpa using hb.1.1
     have e1:(if(k==NameKind.free&&env.scope.kind==.function&&env.kindOf n==some .cell)=true then(n,NameKind.cell) else(n,k))=(n,NameKind.cell):=JR hb;simp only[e1,Kg] at h;cases hx:x==n with
     | true =>
       have hx':x=n:=↑hx
       rw[hx',hkf];exact JZ
     | false =>
       rw[hx] at h;exact JY _ (ih h)
   . have e1:(if(k==NameKind.free&&env.scope.kind==.function&&env.kindOf n==some .cell)=true then(n,NameKind.cell) else(n,k))=(n,k):=JI hb;simp only[e1,Kg] at h;cases hx:x==n with
     | true =>
       have hx':x=n:=↑hx
       rw[hx] at h;rcases h with h|h
       . exact absurd (Option.some.inj h) (hc (n,k) JZ)
       . have hkf:k=.free:=Option.some.inj h;rw[hx',hkf];exact JZ
     | false =>
       rw[hx] at h;exact JY _ (ih h)
variable {H:Hp}
def Un.sameBut {fs ex:List Mc} {H':Hp}{h h1 h2:Heap} {C:Mc} (u:Un fs ex H H' h h1) (hs:Heap.SameBut C h1 h2) (hC:h.objs.size<=C):Un fs ex H H' h h2:=by
 have ne:∀b o,h.get? b=⇑o->b≠C:=λb o e=>Js (Ji (JX e) hC);show#[λb o e n hb hx=>(hs.2 b (ne b o e))\(u.keep b o e n hb hx),λb o e n hb hx=>?_,u.free,λb o e hx=>?_,u.tups,u.frzs,u.tbls]
 . let#[sl,q]:=u.slot b o e n hb hx;show#[sl,(hs.2 b (ne b o e))\q]
 . let#[o',q]:=u.there b o e hx;show#[o',(hs.2 b (ne b o e))\q]
def jw {α:Type} {t:Sem α} {Q Q':α->Mb->Prop} {M:Model} {A:Around} {E:Ma->Mb->Prop} {s:Mb} (h:wpAny M A t Q (λ_ _=>False) s) (hQ:∀a s,Q a s->Q' a s):wpAny M A t Q' E s:=LI h hQ λ_ _ f=>f.elim
variable {elt target iter:Expr} {ifs:List Expr} {pos:Pos}
def Ds {prog:Program} {w:World} {A:Around} {R:Result->Mb->Prop} {s:Mb} {it acc:Ma} {env:Env} (I:Nat->Mb->Prop)
   (turn:∀n s,I n s->wpAny 0x9 A (pyNext it) (λr s₁=>match r with
     | none=>R (.ok .next) s₁
     | some v=>wpAny 0x9 A (letOwnedTupleGo target it v) (λ_ s₂=>wpAny 0x9 A (assign target env v) (λ_ s₃ =>
         wpAny 0x9 A (forIn ifs true λc r=>if r=true then do let ok <- isTrue c env (eval c env); pure (ForInStep.yield ok) else pure (ForInStep.yield r)) (λok s₄ =>
           if ok=true then wpAny 0x9 A (eval elt env) (λx s₅ =>
             wpAny 0x9 A (call (.builtin "list.append") [acc,x]) (λ_ s₆=>∃m,m<n/\I m s₆) (λ_ _=>False) s₅) (λ_ _=>False) s₄
           else ∃m,m<n/\I m s₄) (λ_ _=>False) s₃) (λ_ _=>False) s₂) (λ_ _=>False) s₁) (λ_ _=>False) s)
   (n:Nat) (h:I n s):codeAny 0x9 A (.compLoop (.ListComp elt [#[target,iter,ifs,(0)]] scope pos) 0 it acc env) R s:=by
 refine codeAny_loop rfl I (λn s hI=>?_) n h;show wpAny _ A ((compTurn (.ListComp elt [#[target,iter,ifs,(0)]] scope pos) 0 it acc env).onRaise (λx=>do noteFrame x env; theTreesLotGoes x)) _ _ s;refine wpAny_noted ?_;rw[compTurn_list];refine JD (MV (JD (jw (turn n s hI) λr s₁ h₁=>?_)));cases r with
 | none=>exact JQ h₁
 | some v =>
   refine JD (jw h₁ λ_ s₂ h₂=>JD (jw h₂ λ_ s₃ h₃=>JD (jw h₃ λok s₄ h₄=>?_)));cases ok with
   | false=>exact JQ #[rfl,h₄]
   | true =>
     exact JD (JD (jw h₄ λx s₅ h₅=>JD (jw h₅ λ_ s₆ h₆=>JQ (JQ #[rfl,h₆]))))
abbrev lW (X:Cx) (ifs:List Expr) (t:TT):Prop :=
 ∀(pins:List (Mc×Obj)) (s:Mb) (σ:St) (H:Hp) (Q:Bool->Hp->Prop),Inv X pins σ H s->t σ H Q ->
   wpAny 0x5 X.A (forIn ifs true λc r=>if r=true then do let ok <- isTrue c X.env (eval c X.env); pure (ForInStep.yield ok) else pure (ForInStep.yield r)) (TP X pins σ Q) X.xe s
abbrev Do:TT:=λ_ H Q=>Q true H
variable {X:Cx}
def dC :lW X [] Do:=λ_ _ _ H _ I h=>wpAny_tests_nil #[H,I,h]
def rN {c:Expr} {t:TT} (h:PT X c t):lW X [c] t:=λpins s σ H Q I hq=>wpAny_tests_one (h pins s σ H Q I hq)
abbrev lZ (js:List (JK Nat)) (g:TG):Prop:=∀(x:V) (σ:St) (H:Hp) (Q:St->Hp->Prop),σ.length=js.length->g x σ H Q->g x σ H λσ' H'=>Q σ' H'/\σ'.length=js.length/\∀(i j:Nat),js[i]?=⇑⇑j->σ'[i]?=σ[i]?
abbrev nZ (js:List (JK Nat)) (g:ga):Prop:=∀(x:List V) (σ:St) (H:Hp) (Q:St->Hp->Prop),σ.length=js.length->g x σ H Q->∀Q':St->Hp->Prop,(∀σ' H',Q σ' H'->σ'.length=js.length->(∀(i j:Nat),js[i]?=⇑⇑j->σ'[i]?=σ[i]?)->Q' σ' H')->g x σ H Q'
def dD {i:Nat} (h:js[i]?=⇑none:=by rfl):lZ js (jB i):=λx σ H Q hl q=>#[q,by rw[KD]; exact hl,λk j e=>by rw[KS];intro z;subst z;rw[h] at e;cases e]
def pB :nZ js uc:=λx σ H Q hl z94_ Q' k=>by let#[e,q]:=z94_; show#[e,k _ _ q hl λ_ _ _=>rfl]
def jP {i:Nat} {u:ga} (hu:nZ js u) (h:js[i]?=⇑none:=by rfl):nZ js (we (jB i) u):=λx σ H Q hl ⟨v,r,e,q⟩ Q' k=>#[v,r,e,by
 have hl':(σ.set i ⇑v).length=js.length:=by rw[KD]; exact hl
 exact hu r (σ.set i ⇑v) H Q hl' q _ λσ' H' z1 z2 z3=>k σ' H' z1 z2 λn j e=>(z3 n j e)\(by rw[KS];intro z;subst z;rw[h] at e;cases e)]
def qa {K:Md} {n:Nat} {t:ga} (h:nZ js t):lZ js (m9 K n t):=λx σ H Q hl z96_=>by let#[a,xs,e,sq,l,q]:=z96_; show#[a,xs,e,sq,l,h xs σ H Q hl q _ λσ' H' z1 z2 z3=>#[z1,z2,z3]]
abbrev i5 (J:It) (g:TG) (tif:TT) (te:TE) (js:List (JK Nat)) (σ:St) (Q:VK) (p:Mc) (H1:Hp):Prop :=
 ∃W:Nat->Nat->List V->Hp->Prop,(∃m,W 0 m [] (upd H1 p (.lst [])))/\∀i m acc H2,W i m acc H2->H2 p=⇑(.lst acc) /\
   ((J.stop i H2/\Q ↥p H2)\/(J.go i H2/\acc.length<sizeLine/\∃N:List V->Hp->Prop,(∀acc' H',N acc' H'->∃m',m'<m/\W (i+1) m' acc' H') /\
     ∀x H',J.yld i H2 x H'->g x (cH js σ) H' λσ2 H3=>tif σ2 H3 λc H4 =>
       if c=true then te σ2 H4 λy H5=>H5 p=⇑(.lst acc)/\N (acc++[y]) (upd H5 p (.lst (acc++[y]))) else N acc H4))
abbrev pD (wi:TI) (g:TG) (tif:TT) (te:TE) (js:List (JK Nat)):TE:=λσ H Q=>wi σ H λJ H1=>∀p,H1 p=none->i5 J g tif te js σ Q p H1
variable {wi:TI} {tif:TT} {te:TE}
def uF {use:JK (Ma->Sem Unit)} {Q':Ma->Mb->Prop} {Q:VK} {pins:List (Mc×Obj)} {s:Mb} {σ:St} {g:TG} (hok:m8 scope X.env.scope N' X.N js=true) (hc:X.calm=true)
   (hi:PI X target iter wi) (ho:lZ js g) (hg:∀C s H fp,PG (dU X N' scope C s H fp) target g) (hif:∀C s H fp,lW (dU X N' scope C s H fp) ifs tif) (he:∀C s H fp,PE (dU X N' scope C s H fp) elt te)
   (hs:∀x,foldedSetIterable iter X.env x=pure x) (I:Inv X pins σ H s) (h:pD wi g tif te js σ H Q)
   (hfin:∀(s2:Mb) (H2:Hp) (fp:List Mc) (C:Mc),Inv X pins σ H2 s2->(∀b∈fp,fL X pins H2 b)->s2.heap.objs.size<=C->∀(σ':St) (H':Hp) (s':Mb),Inv (dU X N' scope C s2 H2 fp) [] σ' H' s'->Q ↥s2.heap.objs.size H' ->
     compPost 0x5 X.A X.xe use Q' ↥s2.heap.objs.size C (.ok .next) s') :
   wpAny 0x5 X.A (comprehension (.ListComp elt [#[target,iter,ifs,(0)]] scope pos) scope X.env (firstIterPos [#[target,iter,ifs,(0)]] pos) (newList []) false (eval iter X.env) use) Q' X.xe s:=by
 have O:=Cv hok;have hfr:∀y∈scope.names,y.2=.free->∃c,X.env.cells.lookup y.1=⇑c:=λy hy e=>I.ok.has y.1 (O.free y hy e);refine wpAny_comprehension_free (use:=use) rfl hs (BN hfr) O.kind O.names (al (hi pins s σ H _ I h) λv s1 h1=>al h1 λitv s2 h2=>?_);let#[it,fp,tn,J,H2,e,I2,T,st2,f2,hq]:=h2;subst e;have hf0:H2 s2.heap.objs.size=none:=I2.hok.fresh (JN _);obtain⟨W,⟨m0,w0⟩,turn⟩:=hq _ hf0;refine Ko (wpAny_newFunctionEnv O.nocell (by intro y hy; simp at hy) (λh₁ hns₁ hsb₁=>?_) O.kind);dsimp only at hns₁ hsb₁ ⊢;generalize hH2:s2.heap.push { cls:=.type "list",dict:=none,data:=.seq ([]:List Ma).toArray }=B at hns₁ hsb₁ ⊢;have hC:B.objs.size=s2.heap.objs.size+1:=by rw[<- hH2,Kd]
 have hCle:s2.heap.objs.size<=B.objs.size:=by rw[hC]; exact LQ _
 have old:∀b o,s2.heap.get? b=⇑o->h₁.get? b=⇑o:=λb o e=>hsb₁.extBut b o (by rw[hC]; exact Js (Nat.lt_succ_of_lt (JX e))) (JJ _ (hH2 ▸ JJ _ e));have hDC:s2.heap.objs.size≠B.objs.size:=by rw[hC]; exact Js (MB _)
 have hacc:h₁.get? s2.heap.objs.size=some { cls:=.type "list",dict:=none,data:=.seq ([]:List Ma).toArray }:=hsb₁.extBut _ _ hDC (JJ _ (hH2 ▸ Jb _ rfl));have fpO:∀b∈fp,b<s2.heap.objs.size:=λb hb=>by let#[o,e,_]:=T.obj 0 _ st2 b hb;exact JX e
 have sub:∀x c,(eE scope.names X.env.cells []).lookup x=⇑c->X.env.cells.lookup x=⇑c:=p8 scope.names [] hfr (λx c e=>by cases e);have hasC:∀x,((relabel scope X.env).names.lookup x=some .cell\/(relabel scope X.env).names.lookup x=some .free)->∃c,(eE scope.names X.env.cells []).lookup x=⇑c:=λx hx =>
   LD.mp (qm scope.names [] (vL (scope:=scope) (env:=X.env) scope.names x O.nocell hx))
 -- the block's context at its begin
 have IY:∀t,Inv (dU X N' scope B.objs.size s2 H2 fp) [] (cH js σ) (upd H2 s2.heap.objs.size (.lst [])) { s2 with heap:=h₁,toks:=t }:=by
   intro t;show#[#[I2.ok.mod,O.kind,I2.ok.glob,I2.ok.blt,hCle,λx y c h1 h2=>I2.ok.inj x y c (sub x c h1) (sub y c h2),λx hx=>hasC x hx,λx c h=>(by cases h),I2.ok.hd,I2.ok.frames,.inl rfl,λb hb=>#[Js (Ji (fpO b hb) hCle),λx c e=>(f2 b hb).2.2.2.2.1 x c (sub x c e)],
     I2.bs,Jj I2.ok.bsz I2.sz,λb o e hb=>?_,λb hb z=>?_,I2.stack,I2.stkFree],rfl,I2.bare,Un.laid old (JN _) hf0,#[_,hns₁,λi x v e1 e2 e3=>?_],λx c e=>?_,?_,λx c e=>?_,λp hp=>absurd (show p∈([]:List (Mc×Obj)) from hp) 0x6,?_,?_]
   . rcases (f2 b hb).2.2.2.1 with z|z
     . exact I2.ok.noex b o e z
     . exact absurd (Ji (Ji (JX e) I2.ok.bsz) z) (K2 _)
   . rcases JT.mp (I2.stkSub b z) with q|q
     . exact(f2 b hb).2.1 q
     . exact(f2 b hb).2.2.1 q
   . have e1:N'[i]?=⇑x:=e1;unfold cH at e2;rw[JS] at e2;cases q:js[i]? with
     | none=>rw[q] at e2; cases e2
     | some o =>
       rw[q] at e2;cases o with
       | none=>cases e2
       | some j =>
         have e2:(σ[j]?).join=⇑v:=↑e2
         have e2':σ[j]?=⇑⇑v:=by
           cases z:σ[j]? with
           | none=>rw[z] at e2; cases e2
           | some a=>rw[z] at e2; cases a with
             | none=>cases e2
             | some a=>cases e2; rfl
         let#[hN,hk,hsf]:=O.slots i j x q e1;let#[m,hn,hl]:=I2.loc;let#[u,r,l]:=hl j x v hN e2' (.inr hk);show#[u,r,?_];have hkX:X.env.kindOf x=some .cell\/X.env.kindOf x=some .free:=hk;rcases l with⟨k,_⟩|⟨k,c,hc',hcell⟩
         . rcases hkX with z|z
           . rw[k] at z; cases z
           . rw[k] at z; cases z
         . have hky:(relabel scope X.env).names.lookup x=some .cell\/(relabel scope X.env).names.lookup x=some .free:=wL (env:=X.env) scope.names x hsf;let#[c2,hc2]:=hasC x hky;have:c2=c:=by have:=sub x c2 hc2;rw[hc'] at this;exact(Option.some.inj this).symm
           subst this;let#[ob,ho,hd]:=hcell;exact .inr #[hky,c2,hc2,ob,old _ _ ho,hd]
   . let#[v,ob,ho,hd]:=I2.cell x c (sub x c e);show#[v,ob,old _ _ ho,hd]
   . show upd H2 s2.heap.objs.size (.lst []) B.objs.size=none;rw[am (Ne.symm hDC)];exact I2.hok.fresh hCle
   . let#[v,ob,ho,hd]:=I2.cell x c (sub x c e);rw[am (Js (JX ho))];exact I2.freeC x c (sub x c e)
   . exact I2.hok.laid old (JN _) #[Jm _,[],(0),.nil,hacc]
   . unfold cH;rw[JE];exact O.len
 have hcl:(cH js σ).length=js.length:=by unfold cH; rw[JE]
 have fin:∀{σ':St} {H':Hp} {s':Mb},Inv (dU X N' scope B.objs.size s2 H2 fp) [] σ' H' s'->Q ↥s2.heap.objs.size H'->compPost 0x5 X.A X.xe use Q' ↥s2.heap.objs.size B.objs.size (.ok .next) s' :=
   λ{σ' H' s'} J q=>hfin s2 H2 fp B.objs.size I2 f2 hCle σ' H' s' J q
 have loop:∀t,codeAny 0x5 X.A (.compLoop (.ListComp elt [⟨target,iter,ifs,0⟩] scope pos) 0 ↥it ↥s2.heap.objs.size (compEnvC scope (eE scope.names X.env.cells []) B.objs.size X.env))
     (compPost 0x5 X.A X.xe use Q' ↥s2.heap.objs.size B.objs.size) { s2 with heap:=h₁,toks:=t }:=by
   intro t;have stat:∀{H':Hp},(∀b∈fp,H' b=none)->∀b∈fp,fL (dU X N' scope B.objs.size s2 H2 fp) [] H' b:=λhn b hb =>
     #[hn b hb,Js (Ji (fpO b hb) hCle),(IY t).ok.exfs b hb,.inl hb,λx c e=>((IY t).ok.exf b hb).2 x c e,λp hp=>absurd (show p∈([]:List (Mc×Obj)) from hp) 0x6]
   refine Ds (λn s'=>∃i acc H',Inv (dU X N' scope B.objs.size s2 H2 fp) [] (cH js σ) H' s'/\tn i s'.heap/\(∀b∈fp,H' b=none)/\W i n acc H') ?_ m0
     #[(0),[],_,IY t,T.keep 0 _ _ st2 (λb _ o e=>old b o e),λb hb=>by rw[am (Js (fpO b hb))]; exact(f2 b hb).1,w0]
   rintro n s3 ⟨i,acc,H3,I3,st3,fr3,w3⟩;let#[hD,turn]:=turn i n acc H3 w3;rcases turn with⟨stop,qn⟩|⟨go,hlen,N,hN,step⟩
   . refine al (T.done (dU X N' scope B.objs.size s2 H2 fp) rfl rfl rfl hc i [] s3 (cH js σ) H3 (λ_ _=>False) I3 (stat fr3) st3 stop) λr s4 z97_=>?_;let#[hr,I4]:=z97_;subst hr;exact fin I4 qn
   . refine al (T.item (dU X N' scope B.objs.size s2 H2 fp) rfl rfl rfl hc i [] s3 (cH js σ) H3 (λ_ _=>False) I3 (stat fr3) st3 go) λr s4 z98_=>?_;let#[u,hr,h4]:=z98_;subst hr;refine al h4 λ_ s5 z99_=>?_;let#[x,H5,I5,r5,y5,st5,dX]:=z99_;have I5':=I5.pinned (stat dX) (T.obj _ _ st5);refine al (hg _ _ _ _ _ s5 (cH js σ) H5 x u _ I5' r5 (ho x (cH js σ) H5 _ hcl (step x H5 y5))) λ_ s6 z100_=>?_;let#[σ6,H6,I6,q6,hl6,hk6]:=z100_;refine al (hif _ _ _ _ _ s6 σ6 H6 _ I6 q6) λok s7 z101_=>?_;let#[H7,I7,q7]:=z101_;have again:∀{H8:Hp} {acc8:List V} {s8:Mb},Inv (dU X N' scope B.objs.size s2 H2 fp) ([]++lM fp s5.heap) σ6 H8 s8->N acc8 H8 ->
         ∃m,m<n/\∃i acc H',Inv (dU X N' scope B.objs.size s2 H2 fp) [] (cH js σ) H' s8/\tn i s8.heap/\(∀b∈fp,H' b=none)/\W i m acc H':=by
       intro H8 acc8 s8 I8 n8;let#[m',hm,w8]:=hN acc8 H8 n8;show#[m',hm,i+1,acc8,H8,?_,T.keep _ _ _ st5 λb hb o e=>(I8.pin (b,o) (Jq _ (Jq _ (mN hb e)))).1,λb hb=>?_,w8]
       . refine Inv.weak I8.unpinned (by rw[hl6,hcl]) λk v e=>?_;have e':=e;unfold cH at e;rw[JS] at e;cases q:js[k]? with
         | none=>rw[q] at e; cases e
         | some o =>
           cases o with
           | none=>rw[q] at e; cases e
           | some j=>rw[hk6 k j q]; exact e'
       . let#[o,e,d]:=T.obj _ _ st5 b hb;exact(I8.pin (b,o) (Jq _ (Jq _ (mN hb e)))).2.1
     cases ok with
     | false=>exact again I7 q7
     | true =>
       refine al (he _ _ _ _ _ s7 σ6 H7 _ I7 q7) λy s8 z102_=>?_;let#[yv,H8,I8,r8,hD8,q8]:=z102_;refine al (nR _ s8 σ6 H8 ↥s2.heap.objs.size [yv] ↥s2.heap.objs.size [y] (λ_ H9=>N (acc++[yv]) H9) I8 rfl (.cons r8 .nil) #[_,acc,yv,7,hD8,hlen,q8]) λ_ s9 z103_=>?_;let#[_,H9,I9,_,q9]:=z103_;exact again I9 q9
 exact codeAny_compStart_list (loop _) (T.self X.A 0 _ _ _ (T.keep 0 _ _ st2 (λb _ o e=>old b o e)) (loop _))
def dg {g:TG} (hok:m8 scope X.env.scope N' X.N js=true) (hc:X.calm=true)
   (hi:PI X target iter wi) (ho:lZ js g) (hg:∀C s H fp,PG (dU X N' scope C s H fp) target g) (hif:∀C s H fp,lW (dU X N' scope C s H fp) ifs tif) (he:∀C s H fp,PE (dU X N' scope C s H fp) elt te)
   (hs:∀x,foldedSetIterable iter X.env x=pure x:=by intro _; rfl):PE X (.ListComp elt [#[target,iter,ifs,(0)]] scope pos) (pD wi g tif te js):=by
 intro pins s σ H Q I h;rw[eval_ListComp];refine uF (use:=none) hok hc hi ho hg hif he hs I h λs2 H2 fp C I2 f2 hCle σ' H' s' J q=>?_;let#[m,hn,_]:=J.loc;show#[m,hn,λh' hs'=>#[↥s2.heap.objs.size,H',?_,rfl,q]];refine I2.call' (s':={ s' with heap:=h' }) (ch:=fp) J.os (J.base.sameBut hs' hCle) (λb ob e=>?_) J.bare λb hb=>#[(f2 b hb).2.2.2.1,(f2 b hb).2.1,(f2 b hb).2.2.2.2.1,(f2 b hb).2.2.2.2.2]
 refine(J.hok b ob e).stay (λc w' hc q=>(hs'.2 c ?_)\q) (λ_ q=>q) λ_ _ q=>q;have hfree:H' C=none:=J.free;intro hcC;rw[hcC] at hc;rcases hc with z|z
 . rw[<- z,hfree] at e; cases e
 . rw[hfree] at z; cases z
def ji {i:Nat} {y:Str} {py spos:Pos}{g:TG} (hN:X.N.Nodup) (hi':X.N[i]?=⇑y) (hx:jO X.env.scope y)
   (hok:m8 scope X.env.scope N' X.N js=true) (hc:X.calm=true)
   (hi:PI X target iter wi) (ho:lZ js g) (hg:∀C s H fp,PG (dU X N' scope C s H fp) target g) (hif:∀C s H fp,lW (dU X N' scope C s H fp) ifs tif) (he:∀C s H fp,PE (dU X N' scope C s H fp) elt te)
   (hsw:swapsWith (.ListComp elt [#[target,iter,ifs,(0)]] scope pos) ⇑(.Name y py) spos.line X.env=pure true)
   (hs:∀x,foldedSetIterable iter X.env x=pure x:=by intro _; rfl) (hf:X.fn y=true\/X.env.scope.names.lookup y=some .local:=by first|exact .inl rfl|exact .inr rfl|assumption) :
   PS X (.Assign [.Name y py] (.ListComp elt [#[target,iter,ifs,(0)]] scope pos) spos) (mr (pD wi g tif te js) (jB i)):=by
 intro pins s σ H D I h;rw[exec_Assign_Name_used _ _ _ _ hsw];refine JD (MV (JD ?_));show wpAny _ X.A (do let _ <- comprehension (.ListComp elt [⟨target,iter,ifs,0⟩] scope pos) scope X.env _ (newList []) false (eval iter X.env) ⇑(assign (.Name y py) X.env)) _ _ s;refine JD (al (uF (use:=⇑(assign (.Name y py) X.env)) (Q':=λ_ s'=>SP X pins D .next s') hok hc hi ho hg hif he hs I h λs2 H2 fp C I2 f2 hCle σ' H' s' J q=>?_) λ_ s' q=>?_)
 . let#[m,hn,_]:=J.loc;have I3:Inv X pins σ H' s':=I2.call' (ch:=fp) J.os J.base J.hok J.bare λb hb=>#[(f2 b hb).2.2.2.1,(f2 b hb).2.1,(f2 b hb).2.2.2.2.1,(f2 b hb).2.2.2.2.2]
   have hCL:C≠X.env.locals:=λz=>absurd (Ji I2.lt hCle) (by rw[z]; exact K2 _);have hCc:∀x c,X.env.cells.lookup x=⇑c->c≠C:=λx c e z=>by let#[v,ob,ho,_]:=I2.cell x c e;exact absurd (Ji (JX ho) hCle) (by rw[z]; exact K2 _)
   have hCp:∀p∈X.pn++pins,p.1≠C:=λp hp z=>by have e:=(I2.pin p hp).1;exact absurd (Ji (JX e) hCle) (by rw[z]; exact K2 _)
   show wpAny _ X.A (assign (.Name y py) X.env ↥s2.heap.objs.size) _ _ s';refine wpAny_assign_Name (x3 I3 hN hi' hx (v:=↥s2.heap.objs.size) rfl (λs'' I4 z104_=>?_) hf);let#[a,hsb,ha]:=z104_;have hna:C≠a:=by
     rcases ha with z|z
     . rw[z]; exact hCL
     . exact(hCc _ _ z).symm
   show#[m,hn.sameBut hsb hna,λh' hs'=>#[_,H',?_,q]];exact I4.turned (t':=s''.toks) (h':=h') (it:=C) (λb o hb e=>(hs'.2 b hb)\e) J.free hCL (.inr (Jj I2.sz hCle)) hCc hCp
 . exact JQ (JQ q)
variable {p:Mc}
section
variable {g:TG} {tif:TT} {te:TE} {js:List (JK Nat)} {σ:St} {H:Hp} {Q:VK}
abbrev nQ (g:TG) (tif:TT) (te:TE) (σ:St) (p:Mc) (acc:List V) (N:List V->Hp->Prop) (x:V) (H:Hp):Prop :=
 g x σ H λσ2 H3=>tif σ2 H3 λc H4=>if c=true then te σ2 H4 λy H5=>H5 p=⇑(.lst acc)/\N (acc++[y]) (upd H5 p (.lst (acc++[y]))) else N acc H4
def oz {lo:Int} {n:Nat} (hn:n<=1000000) (Pv:Nat->List V->Hp->Prop) (h0:Pv 0 [] (upd H p (.lst [])))
   (hl:∀i acc H2,i<=n->Pv i acc H2->H2 p=⇑(.lst acc)/\acc.length<=i)
   (hs:∀i acc H2,i<n->Pv i acc H2->nQ g tif te (cH js σ) p acc (Pv (i+1)) (.int (lo+i)) H2) (hd:∀acc H2,Pv n acc H2->Q ↥p H2) :
   i5 (gh lo n) g tif te js σ Q p H:=by
 show#[λi m acc H=>m=n - i/\i<=n/\Pv i acc H,#[n,by simp,Jm _,h0],?_];rintro i m acc H2 ⟨rfl,hi,q⟩;let#[q1,q2]:=hl i acc H2 hi q;show#[q1,?_];by_cases hlt:i<n
 . refine .inr #[hlt,?_,Pv (i+1),λacc' H' p'=>#[n - (i+1),∅,rfl,hlt,p'],λx H' y=>?_]
   . have:(1000000:Nat)<sizeLine:=by decide
     lia
   . let#[e,y]:=y;subst e y;exact hs i acc _ hlt q
 . have e:i=n:=by lia
   subst e;exact .inl #[JN _,hd acc H2 q]
def jT {K:Md} {a:Mc} {xs:List V} (hn:xs.length<=1000000) (Pv:Nat->List V->Hp->Prop) (h0:Pv 0 [] (upd H p (.lst [])))
   (hl:∀i acc H2,i<=xs.length->Pv i acc H2->H2 p=⇑(.lst acc)/\acc.length<=i/\aE K H2 a xs)
   (hs:∀i x acc H2,xs[i]?=⇑x->Pv i acc H2->nQ g tif te (cH js σ) p acc (Pv (i+1)) x H2) (hd:∀acc H2,Pv xs.length acc H2->Q ↥p H2) :
   i5 (jC K a) g tif te js σ Q p H:=by
 show#[λi m acc H=>m=xs.length - i/\i<=xs.length/\Pv i acc H,#[xs.length,by simp,Jm _,h0],?_];rintro i m acc H2 ⟨rfl,hi,q⟩;let#[q1,q2,q3]:=hl i acc H2 hi q;show#[q1,?_];by_cases hlt:i<xs.length
 . refine .inr #[#[xs,xs[i],q3,by simp [hlt]],?_,Pv (i+1),λacc' H' p'=>#[xs.length - (i+1),∅,rfl,hlt,p'],λx H' y=>?_]
   . have:(1000000:Nat)<sizeLine:=by decide
     lia
   . let#[e,y]:=y;subst e;exact hs i x acc _ (y xs q3) q
 . have e:i=xs.length:=by lia
   subst e;exact .inl #[#[xs,q3,JN _],hd acc H2 q]
def vA {K:Md} {a:Mc} {xs:List V} (hn:xs.length<=1000000) (Pv:Nat->List V->Hp->Prop) (h0:Pv 0 [] (upd H p (.lst [])))
   (hl:∀i acc H2,i<=xs.length->Pv i acc H2->H2 p=⇑(.lst acc)/\acc.length<=i/\aD K H2 a xs)
   (hs:∀i x acc H2,xs[i]?=⇑x->Pv i acc H2->nQ g tif te (cH js σ) p acc (Pv (i+1)) x H2) (hd:∀acc H2,Pv xs.length acc H2->Q ↥p H2) :
   i5 (j3 K a) g tif te js σ Q p H:=by
 show#[λi m acc H=>m=xs.length - i/\i<=xs.length/\Pv i acc H,#[xs.length,by simp,Jm _,h0],?_];rintro i m acc H2 ⟨rfl,hi,q⟩;let#[q1,q2,q3]:=hl i acc H2 hi q;show#[q1,?_];by_cases hlt:i<xs.length
 . refine .inr #[#[xs,xs[i],q3,by simp [hlt]],?_,Pv (i+1),λacc' H' p'=>#[xs.length - (i+1),∅,rfl,hlt,p'],λx H' y=>?_]
   . have:(1000000:Nat)<sizeLine:=by decide
     lia
   . let#[e,y]:=y;subst e;exact hs i x acc _ (y xs q3) q
 . have e:i=xs.length:=by lia
   subst e;exact .inl #[#[xs,q3,JN _],hd acc H2 q]
end
section
variable {X:Cx}
def J7 {h:Heap} {sl:Mc} {vl vu:Ma} {lo hi:JK Int} (hs:h.IsSliceOf sl vl vu .none) (pl:IsPart vl lo) (pu:IsPart vu hi):∃l u:JK (Int×Tok),l.map (·.1)=lo/\u.map (·.1)=hi/\h.IsSlice sl l u none:=by
 let#[o,ho,hc,hd]:=hs;cases pl with
 | none =>
   cases pu with
   | none=>show#[none,none,7,o,ho,hc,hd]
   | int j t=>show#[none,⇑(j,t),7,o,ho,hc,hd]
 | int i t =>
   cases pu with
   | none=>show#[⇑(i,t),none,7,o,ho,hc,hd]
   | int j t'=>show#[⇑(i,t),⇑(j,t'),7,o,ho,hc,hd]
abbrev Hk:V->JK Int->JK Int->Hp->VK->Prop:=λx lo hi H Q=>∃z,x=.str z/\z.length<=sizeLine/\Q (.str (Txt.slice z lo hi)) H
def wN:gP X Hk:=by
 intro pins s σ H x v vl vu lo hi sl Q I rx hs pl pu h;let#[z,rfl,hz,q]:=h;let#[t,rfl]:=rx;let#[l,u,rfl,rfl,hsl]:=J7 hs pl pu;show#["str",_,F.slot_str_getitem.lookup,typeIs_str _ _ _,wpAny_getItem_str_slice (l:=l) (u:=u) (st:=none) hsl rfl
   (post_val_or_str #[Jj (Txt.slice_le z _ _) hz,λt' k=>#[.str (Txt.slice z (l.map (·.1)) (u.map (·.1))),H,I.tok _,#[5],q]])]
def D4 {ys:List Str}:∀{us:List Ma},ao (ys.map V.str) us->StrsAre us ys:=by
 induction ys with
 | nil=>intro us h; cases h; exact .nil
 | cons y r ih =>
   intro us h;cases h with
   | cons r1 h =>
     let#[t,rfl]:=r1;exact .cons y t (ih h)
abbrev Hg (K:Md):V->List V->Hp->VK->Prop:=λx xs H Q=>∃sep p ys,x=.str sep/\xs=[↥p]/\aE K H p (ys.map V.str)/\(ys.map (·.length)).sum+ys.length * sep.length<=16777216/\Q (.str (Txt.join sep ys)) H
def DB:jd X "str.join" (Hg X.K):=by intro pins s σ H x xs v us Q I rx r h;let#[sep,p,ys,rfl,rfl,hp,hl,q]:=h;let#[t,rfl]:=rx;let#[u,rfl,ru]:=i9 r;cases (show u=Value.ref p from ru);let#[its,rv,pl,hz]:=I.list hp;exact join_list pl.isList (by simpa using D4 rv) hl λt' k=>#[.str (Txt.join sep ys),H,I.tok _,#[5],q]
def oT:bX X (.builtin "isinstance") (λxs H Q=>∃x c t b,xs=[x,.ty c]/\TyOf X.K H x t/\PySem.W.kitOne X.K t (.type c)=⇑b/\Q (.bl b) H):=by intro pins s σ H xs us Q I r h;let#[x,c,t,b,rfl,ty,hk,q]:=h;let#[u,w',rfl,rx,rc]:=Bs r;cases (show w'=Value.type c from rc);exact GN I rx ty hk λtk=>#[.bl b,H,I.tok _,rfl,q]
end
abbrev kS:Expr->JK V
 | .Constant (.str x) _ _=>⇑(.str x)
 | .Constant (.int i) _ _=>⇑(.int i)
 | .Constant (.bool b) _ _=>⇑(.bl b)
 | .Constant .none _ _=>some .non
 | _=>none
abbrev mz:List Expr->JK (List V)
 | []=>⇑[]
 | e::r=>match kS e,mz r with
   | some v,⇑vs=>⇑(v::vs)
   | _,_=>none
def Bc {e:Expr} {v:V} (h:kS e=⇑v):PE X e (tC v):=by
 unfold kS at h;split at h
 . cases h; exact aU
 . cases h; exact aF
 . cases h; exact dr
 . cases h; exact fi
 . cases h
def DA {e:Expr} {es:List Expr} {v:V} (h:kS e=⇑v):starEach (e::es) X.env=(false,eval e X.env)::starEach es X.env:=by unfold kS at h;split at h <;> first|rfl|cases h
def wX {X:Cx}:∀{es:List Expr} {vs:List V},mz es=⇑vs->PA X es (λ_ H Q=>Q vs H)
 | [],vs,h=>by cases h;exact aC
 | e::r,vs,h=>by
   unfold mz at h;split at h
   . rename_i v vs' h1 h2
     cases h;exact aP (Bc h1) (wX h2) (DA h1)
   . cases h
def aA.tup {K:Md} {H H':Hp} {a:Mc} {xs:List V} (e:aA H H') (h:aD K H a xs):aD K H' a xs:=by
 rcases h with(h|⟨o,h⟩)|h
 . exact .inl (.inl (e _ _ h))
 . exact .inl (.inr #[o,e _ _ h])
 . exact .inr h
def aA.new {o:HO} (h:H p=none):aA H (upd H p o):=λb u e=>by rw[am (cS e h)];exact e
def aA.upd {H':Hp}{o:HO} (e:aA H H') (h:H p=none):aA H (upd H' p o):=λb u q=>by rw[am (cS q h)];exact e b u q
structure DefOk (K:W.Frag) (mg:Str->Option Value) (name:Str) (st:Stmt) (ps:List Str) (f:Addr) (fd:FuncData):Prop where
 F:Fun K name name st f fd
 g:mg name=⇑↥f
 b:fP K fd ps []
section
variable {X:Cx} {k:Nat} {f:Mc} {fd:FuncData} {ps:List Str} {sp:Sp} {x:Str} {st:Stmt} {p pos:Pos} {e:Expr} {es:List Expr} {t:TA}
def io (D:DefOk X.K X.mg x st ps f fd) (G:FnOk X.prog X.w X.K X.mg X.base CX0 k f fd ps sp) (hr:Room k X.A) (ha:PA X (e::es) t) (hg:Gl X x:=by rfl)
   (hdb:(x==("__debug__":Str))=false:=by decide) (he:starEach (e::es) X.env=(false,eval e X.env)::starEach es X.env:=by rfl) (hpl:(backTo pos (starEach es X.env)).any (·.1)=false:=by rfl) :
   PE X (.Call (.Name x p) (e::es) [] pos) (qg sp [] E0 t):=IS G hr hg D.g D.F.kp D.b .nil eO ha hdb he hpl
def rp {z:Int} (h:∃t,X.mg x=⇑(.int z t)) (hg:Gl X x:=by rfl) (hd:(x==("__debug__":Str))=false:=by decide):PE X (.Name x pos) (tC (.int z)):=by let#[t,h]:=h;exact wq hg h #[t,rfl] hd
def jk {a:Mc} (h:X.mg x=⇑↥a) (hg:Gl X x:=by rfl) (hd:(x==("__debug__":Str))=false:=by decide):PE X (.Name x pos) (tC ↥a):=wq hg h rfl hd
end
def Hy {K:Md} {mg:Str->JK Ma} {h:Heap} {name:Str} {st:Stmt} {ps:List Str} {f:Mc} {oc:Ma} {od an:JK Mc} {osl:Array (JK Ma)} {kV doc pm cdv ct:Ma} (X:K.In h) (G:h.Ns mainGlobals mg)
   (a:PySem.W.nsIn K mainGlobals name=⇑⇑↥f) (l:K.lookup f=⇑#[oc,od,.func (PySem.W.fnOf name name (dH st) (aV st) (az st) .none kV doc pm an cdv ct),osl]) (c:PySem.W.codeIn K cdv name=true) (k:PySem.W.keepIn K ↥f=true)
   (b:∀(kV doc pm:Ma) (an:JK Mc) (cdv ct:Ma) (us:List Ma),us.length=ps.length->bindArgs (PySem.W.fnOf name name (dH st) (aV st) (az st) .none kV doc pm an cdv ct) #[us,[]]=pure (ps.zip us)) :
   DefOk K mg name st ps f (PySem.W.fnOf name name (dH st) (aV st) (az st) .none kV doc pm an cdv ct) :=
 #[ju l c k,PySem.W.mg_of X G a,(ju l c k).binds b]
def wn {α:Type} {xs:List α} {i:Int} (h0:0<=i) (h1:i<xs.length):∃v,ay xs i=⇑v/\v∈xs:=by
 have hi:i.toNat<xs.length:=by lia
 show#[xs[i.toNat],?_,KL hi];have:=bf (xs:=xs) (j:=i.toNat) (v:=xs[i.toNat]) (by simp [hi]);have e:((i.toNat:Nat):Int)=i:=by lia
 rwa [e] at this
def ET {ns:List Int} {i:Int} (h0:0<=i) (h1:i<ns.length):∃z,ay (ns.map V.int) i=⇑(.int z):=by let#[v,e,hv]:=wn (xs:=ns.map V.int) h0 (by rw[JE]; exact h1);let#[z,_,rfl]:=Jh.mp hv;show#[z,e]
def aq {p:Prop} [Decidable p] (h:decide p=true):p:=Ke h
def aL {c A B:Prop} [Decidable c] (hc:c) (h:A):if c then A else B:=by rw[JR hc];exact h
def aX {c A B:Prop} [Decidable c] (hc:¬ c) (h:B):if c then A else B:=by rw[JI hc];exact h
end L2
namespace L2
open PySem
def cL:bootBuiltins "len"=⇑(.builtin "len"):=by decide +kernel
def nV:bootBuiltins "isinstance"=⇑(.builtin "isinstance"):=by decide +kernel
def p7:bootBuiltins "str"=⇑(.type "str"):=by decide +kernel
def gw:bootBuiltins "int"=⇑(.type "int"):=by decide +kernel
def Hw:bootBuiltins "bool"=⇑(.type "bool"):=by decide +kernel
def iM:bootBuiltins "list"=⇑(.type "list"):=by decide +kernel
def fS:bootBuiltins "tuple"=⇑(.type "tuple"):=by decide +kernel
def kW:bootBuiltins "dict"=⇑(.type "dict"):=by decide +kernel
def Gy:bootBuiltins "enumerate"=⇑(.type "enumerate"):=by decide +kernel
def uR:bootBuiltins "zip"=⇑(.type "zip"):=by decide +kernel
def Hs {b:Bool} (h:b=false):¬ b=true:=by rw[h]; decide
end L2
namespace L2
open PySem PySem.Spec PyProof.Rows
mutual
noncomputable def au (K:Md) (H:Hp):PyData->V->Prop
 | .none,v=>v=.non
 | .bool b,v=>v=.bl b
 | .int i,v=>v=.int i
 | .str x,v=>v=.str x
 | .list ds,v=>∃a xs,v=↥a/\aE K H a xs/\bF K H ds xs
 | .tuple ds,v=>∃a xs,v=↥a/\aD K H a xs/\bF K H ds xs
 | .dict _,_=>False
noncomputable def bF (K:Md) (H:Hp):List PyData->List V->Prop
 | [],xs=>xs=[]
 | d::ds,xs=>∃x r,xs=x::r/\au K H d x/\bF K H ds r
end
section
variable {X:Cx} {pins:List (Mc×Obj)} {σ:St} {H:Hp} {s:Mb}
mutual
theorem kK (I:Inv X pins σ H s):∀(d:PyData) (v:V) (u:Ma),au X.K H d v->bC v u->∃as,Reads s.heap u d as
 | .none,v,u,h,r=>by unfold au at h;subst h;cases (show u=Value.none from r);show#[_,.none]
 | .bool b,v,u,h,r=>by unfold au at h;subst h;cases (show u=Value.bool b from r);show#[_,.bool b]
 | .int i,v,u,h,r=>by
   unfold au at h;subst h;let#[t,rfl]:=(show ∃t,u=Value.int i t from r)
   show#[_,.int i t]
 | .str x,v,u,h,r=>by
   unfold au at h;subst h;let#[t,rfl]:=(show ∃t,u=Value.str x t from r)
   show#[_,.str x t]
 | .list ds,v,u,h,r=>by unfold au at h;let#[a,xs,rfl,hq,hd]:=h;cases (show u=Value.ref a from r);obtain⟨its,rv,⟨o,n,ho,hc,_,hdt⟩,_⟩:=I.list hq;let#[as,ra]:=qf I ds xs its hd rv;show#[_,.list ho hc hdt ↑ra]
 | .tuple ds,v,u,h,r=>by unfold au at h;let#[a,xs,rfl,hq,hd]:=h;cases (show u=Value.ref a from r);obtain⟨its,rv,⟨o,ho,hc,n,hdt⟩,_⟩:=I.tuple hq;let#[as,ra]:=qf I ds xs its hd rv;show#[_,.tuple ho hc hdt ↑ra]
 | .dict _,v,u,h,r=>by unfold au at h;exact h.elim
theorem qf (I:Inv X pins σ H s):∀(ds:List PyData) (xs:List V) (us:List Ma),bF X.K H ds xs->ao xs us->∃as,ReadsAll s.heap us ds as
 | [],xs,us,h,r=>by unfold bF at h;subst h;cases r;show#[_,.nil]
 | d::ds,xs,us,h,r=>by
   unfold bF at h;let#[x,rest,rfl,hd,hds]:=h;cases r with
   | cons r1 r2 =>
     let#[as,ra]:=kK I d _ _ hd r1;let#[bs,rb]:=qf I ds _ _ hds r2;show#[_,.cons ra rb]
end
end
abbrev jU (K:Md):R2:=λx y H Q=>∃d e,au K H d x/\au K H e y/\SeqAt.shaped d=true/\SeqAt.shaped e=true/\Q (.bl (PyData.eqv d e)) H
abbrev gk (K:Md):R2:=λx y H Q=>∃d e,au K H d x/\au K H e y/\SeqAt.shaped d=true/\SeqAt.shaped e=true/\Q (.bl (!PyData.eqv d e)) H
variable {X:Cx}
def oM (hu:X.A.units+64<cLine):bU X (compareOp .Eq) (jU X.K):=by intro pins s σ H x y v u Q I rx ry h;let#[d,e,hd,he,sd,se,q]:=h;let#[as,ra]:=kK I d x v hd rx;let#[bs,rb]:=kK I e y u he ry;exact SeqAt.compareEq_shaped ra rb sd se hu #[.bl _,H,I,rfl,q]
def i3 (hu:X.A.units+64<cLine):bU X (compareOp .NotEq) (gk X.K):=by intro pins s σ H x y v u Q I rx ry h;let#[d,e,hd,he,sd,se,q]:=h;let#[as,ra]:=kK I d x v hd rx;let#[bs,rb]:=kK I e y u he ry;exact SeqAt.compareNe_shaped ra rb sd se hu #[.bl _,H,I,rfl,q]
def xV :bU X (binaryOp .FloorDiv) (rI (λ_ j=>0<j/\j<2 ^ 64) λi j=>.int (i / j)):=kj λi j _ _ _ _ _ hc q=>by
 have h1:(0:Int)<j:=hc.1;have h2:j<2 ^ 64:=hc.2;refine floordiv_int ∅ (by rw[Lz i ∅]; exact q) (.inl (PyProof.noPylong_of_log2 ?_));have h0:j.natAbs≠0:=by lia
 refine Le (m:=64) ((Nat.log2_lt h0).mpr ?_) #[];have:(2:Int) ^ 64=((2 ^ 64:Nat):Int):=by decide
 lia
section
variable {κ:Type} [DecidableEq κ]
abbrev bM (kvs:List (κ×V)) (k:κ):JK V:=(kvs.find? λkv=>decide (kv.1=k)).map (·.2)
abbrev ae (kvs:List (κ×V)) (k:κ) (v:V):List (κ×V) :=
 if(kvs.any λkv=>decide (kv.1=k))=true then kvs.map (λkv=>if kv.1=k then(kv.1,v) else kv) else kvs++[(k,v)]
def fN {p:κ×V} {r:List (κ×V)} {k:κ} (e:p.1=k):bM (p::r) k=⇑p.2:=by simp [bM,L4,e]
def fg {p:κ×V} {r:List (κ×V)} {k:κ} (e:¬ p.1=k):bM (p::r) k=bM r k:=by simp [bM,L4,e]
def lL (k:κ):∀kvs:List (κ×V),(kvs.any λkv=>decide (kv.1=k))=(bM kvs k).isSome
 | []=>rfl
 | p::r=>by
   rw[LW];by_cases e:p.1=k
   . simp only[fN e,JG e,Bool.true_or,Option.isSome_some]
   . rw[fg e,JP e,Bool.false_or]; exact lL k r
def uQ (k j:κ) (y:V):∀kvs:List (κ×V),bM (kvs.map λkv=>if kv.1=k then(kv.1,y) else kv) j=(bM kvs j).map λx=>if j=k then y else x
 | []=>rfl
 | p::r=>by
   have ih:=uQ k j y r;rw[Jd];by_cases h:p.1=k
   . rw[JR h];by_cases e:p.1=j
     . rw[fN (p:=(p.1,y)) e,fN e,Lf,JR (e.symm\h)]
     . rw[fg (p:=(p.1,y)) e,fg e,ih]
   . rw[JI h];by_cases e:p.1=j
     . rw[fN (p:=p) e,fN e,Lf,JI (λz=>h (e\z))]
     . rw[fg (p:=p) e,fg e,ih]
def qk (k j:κ) (y:V):∀kvs:List (κ×V),bM kvs k=none->bM (kvs++[(k,y)]) j=if j=k then ⇑y else bM kvs j
 | [],_=>by
   by_cases e:k=j
   . rw[JR e.symm]; exact fN (p:=(k,y)) e
   . rw[JI (λz=>e z.symm)]; exact fg (p:=(k,y)) e
 | p::r,hn=>by
   rw[List.cons_append];have hk:¬ p.1=k:=λz=>by rw[fN z] at hn; cases hn
   rw[fg hk] at hn;have ih:=qk k j y r hn;by_cases e:p.1=j
   . rw[fN e,fN e,JI (λz=>hk (e\z))]
   . rw[fg e,fg e,ih]
def valV_put (kvs:List (κ×V)) (k j:κ) (y:V):bM (ae kvs k y) j=if j=k then ⇑y else bM kvs j:=by
 unfold ae;by_cases a:(kvs.any λkv=>decide (kv.1=k))=true
 . rw[JR a,uQ];rw[lL] at a;by_cases e:j=k
   . let#[x,hx]:=LD.mp a;rw[JR e,e,hx,Lf,JR rfl]
   . rw[JI e];cases bM kvs j with
     | none=>rfl
     | some x=>rw[Lf,JI e]
 . rw[JI a];refine qk k j y kvs ?_;rw[lL] at a;cases q:bM kvs k with
   | none=>rfl
   | some x=>rw[q] at a; exact(a rfl).elim
def fV (kvs:List (κ×V)) (k:κ) (v:V):(ae kvs k v).length<=kvs.length+1:=by
 unfold ae;split
 . rw[JE]; lia
 . rw[JF,Jo,Kt]; lia
def x5 {kvs:List (κ×V)} {k:κ} (v:V) (h:bM kvs k=none):ae kvs k v=kvs++[(k,v)]:=by unfold ae;rw[lL,h];exact JI #[]
def dQ.isSome_eq {o:JK V} {u:JK Ma} (r:dQ o u):o.isSome=u.isSome:=by
 cases o with
 | none=>cases u with
   | none=>rfl
   | some _=>exact(show False from r).elim
 | some _=>cases u with
   | none=>exact(show False from r).elim
   | some _=>rfl
def dQ.getD {o:JK V} {u:JK Ma} {d:V} {d':Ma} (r:dQ o u) (rd:bC d d'):bC (o.getD d) (u.getD d'):=by
 cases o with
 | none=>cases u with
   | none=>exact rd
   | some _=>exact(show False from r).elim
 | some _=>cases u with
   | none=>exact(show False from r).elim
   | some _=>exact r
def KV.val {kvs:List (κ×V)} {vs:List (κ×Ma)} (r:KV kvs vs) (k:κ):dQ (bM kvs k) (valueAt vs k):=by
 unfold KV at r
 induction r with
 | nil=>exact True.intro
 | @cons p q ps qs h t ih =>
   let#[h1,h2]:=h;by_cases e:p.1=k
   . have e':q.1=k:=h1.symm\e;have b:valueAt (q::qs) k=⇑q.2:=by simp [valueAt,L4,e']
     rw[fN e,b]; exact h2
   . have e':¬ q.1=k:=λz=>e (h1\z);have b:valueAt (q::qs) k=valueAt qs k:=by simp [valueAt,L4,e']
     rw[fg e,b]; exact ih
def KV.any {kvs:List (κ×V)} {vs:List (κ×Ma)} (r:KV kvs vs) (k:κ):(kvs.any λkv=>decide (kv.1=k))=vs.any λkv=>decide (kv.1=k):=by
 unfold KV at r
 induction r with
 | nil=>rfl
 | cons h t ih=>rw[LW,LW,ih,h.1]
variable {u:Ma} {y:V}
def KV.repl {kvs:List (κ×V)} {vs:List (κ×Ma)} (r:KV kvs vs) (k:κ) (ry:bC y u) :
   KV (kvs.map λkv=>if kv.1=k then(kv.1,y) else kv) (vs.map λkv=>if kv.1=k then(kv.1,u) else kv):=by
 unfold KV at r ⊢
 induction r with
 | nil=>exact .nil
 | @cons p q ps qs h t ih =>
   rw[Jd,Jd];refine .cons ?_ ih;let#[h1,h2]:=h;by_cases e:p.1=k
   . rw[JR e,JR (h1.symm\e)]; show#[h1,ry]
   . rw[JI e,JI (λz=>e (h1\z))]; show#[h1,h2]
def KV.put {kvs:List (κ×V)} {vs:List (κ×Ma)} (r:KV kvs vs) (k:κ) (ry:bC y u):KV (ae kvs k y) (stored vs k u):=by
 unfold ae stored;rw[r.any k];by_cases e:(vs.any λkv=>decide (kv.1=k))=true
 . rw[JR e,JR e]; exact r.repl k ry
 . rw[JI e,JI e]; exact Paired.snoc r #[rfl,ry]
def KV.length {kvs:List (κ×V)} {vs:List (κ×Ma)} (r:KV kvs vs):kvs.length=vs.length:=Paired.length r
end
variable {w:World}
def im {P:Program} {k:aI} (r:bC (kV k) u):(cN P w).is k u=true:=by
 cases k with
 | inl i=>let#[t,e]:=(show ∃t,u=Value.int i t from r); subst e; exact EU P w i t
 | inr x=>let#[t,e]:=(show ∃t,u=Value.str x t from r); subst e; exact CP P w x t
def wo {P:Program} {w:World}:∀{ks:List aI} {us:List Ma},ao (ks.map kV) us->ItemsAre (cN P w) ks us
 | [],_,r=>by rw[Kb] at r; cases r; exact .nil
 | k::ks,_,r=>by
   rw[Jd] at r;cases r with
   | cons h t=>exact .cons (im h) (wo t)
noncomputable abbrev KT (H:Hp):List (List aI×V)->List (List aI×Mc×Ma)->Prop:=Paired λp q=>p.1=q.1/\H q.2.1=⇑(.tup (p.1.map kV))/\bC p.2 q.2.2
variable {H:Hp}
def KT.val {kvs:List (List aI×V)} {xs:List (List aI×Mc×Ma)} (r:KT H kvs xs) (k:List aI):dQ (bM kvs k) ((atKey xs k).map (·.2)):=by
 induction r with
 | nil=>exact True.intro
 | @cons p q ps qs h t ih =>
   let#[h1,_,h2]:=h;by_cases e:p.1=k
   . have e':q.1=k:=h1.symm\e;have b:atKey (q::qs) k=⇑q.2:=by simp [atKey,L4,e']
     rw[fN e,b]; exact h2
   . have e':¬ q.1=k:=λz=>e (h1\z);have b:atKey (q::qs) k=atKey qs k:=by simp [atKey,L4,e']
     rw[fg e,b]; exact ih
def KT.repl {kvs:List (List aI×V)} {xs:List (List aI×Mc×Ma)} (r:KT H kvs xs) (k:List aI) (ry:bC y u) :
   KT H (kvs.map λkv=>if kv.1=k then(kv.1,y) else kv) (xs.map (putAt k u)):=by
 induction r with
 | nil=>exact .nil
 | @cons p q ps qs h t ih =>
   rw[Jd,Jd];refine .cons ?_ ih;let#[h1,h2,h3]:=h;unfold putAt;by_cases e:p.1=k
   . rw[JR e,JR (h1.symm\e)]; show#[h1,h2,ry]
   . rw[JI e,JI (λz=>e (h1\z))]; show#[h1,h2,h3]
def KT.put {kvs:List (List aI×V)} {xs:List (List aI×Mc×Ma)} (r:KT H kvs xs) (k:List aI) {b:Mc} (hb:H b=⇑(.tup (k.map kV))) (ry:bC y u) :
   KT H (ae kvs k y) (storedH xs k b u):=by
 have e:(kvs.any λkv=>decide (kv.1=k))=(atKey xs k).isSome:=by rw[lL,(r.val k).isSome_eq,Option.isSome_map]
 unfold ae storedH;rw[e];by_cases q:(atKey xs k).isSome=true
 . rw[JR q,JR q]; exact r.repl k ry
 . rw[JI q,JI q]; exact Paired.snoc r #[rfl,hb,ry]
variable {H':Hp}
def KT.keeps {kvs:List (List aI×V)} {xs:List (List aI×Mc×Ma)} (r:KT H kvs xs) (ht:∀b ys,H b=⇑(.tup ys)->H' b=⇑(.tup ys)):KT H' kvs xs :=
 Paired.mapP r λ_ _ z=>#[z.1,ht _ _ z.2.1,z.2.2]
section
variable {P:Program} {w:World} {H:Hp} {h:Heap} {a:Mc}
def tO {u:HO} (ok:cC P w H h) (e:Rd H a u):cJ P w H h a u:=e.ok ok
def jx {kvs:List (aI×V)} (ok:cC P w H h) (e:Rd H a (.dK kvs)):kvs.length<=sizeLine/\(a==sysModules)=false/\∃vs,KV kvs vs/\h.DictOf (cN P w) a vs :=
 show cJ P w H h a (.dK kvs) from tO ok e
def nF {kvs:List (aI×V)} (ok:cC P w H h) (e:H a=⇑(.dK kvs)):kvs.length<=sizeLine/\(a==sysModules)=false/\∃vs,KV kvs vs/\h.DictOf (cN P w) a vs:=jx ok (.inl e)
def lO {ks:List aI} (ok:cC P w H h) (e:H a=⇑(.tup (ks.map kV))):(tupleKind (cN P w)).is h ks a:=by
 let#[_,its,r,o,h1,h2,n,h3]:=(show cJ P w H h a (.tup (ks.map kV)) from ok a _ e)
 show#[o,its.toArray,n,h1,h2,h3,by simpa using wo r]
def jh {kvs:List (List aI×V)} (ok:cC P w H h) (e:Rd H a (.dT kvs)):kvs.length<=sizeLine/\(a==sysModules)=false /\
   ∃xs,KT H kvs xs/\h.DictOfH (tupleKind (cN P w)) a xs:=by
 let#[z,y,xs,r,o,es,ep,h1,h2,h3,h4,h5]:=(show cJ P w H h a (.dT kvs) from tO ok e)
 show#[z,y,xs,r,o,es,ep,h1,h2,h3,h4,λx hx=>?_,h5];have all:∀{l:List (List aI×V)} {m:List (List aI×Mc×Ma)},KT H l m->∀x∈m,(tupleKind (cN P w)).is h x.1 x.2.1:=by
   intro l m q
   induction q with
   | nil=>intro x hx; exact nomatch hx
   | @cons p q ps qs hq t ih =>
     intro x hx;rcases JT.mp hx with e|hx
     . subst e;exact lO ok (by rw[<- hq.1]; exact hq.2.1)
     . exact ih x hx
 exact all r x hx
def BF {kvs:List (List aI×V)} (ok:cC P w H h) (e:H a=⇑(.dT kvs)):kvs.length<=sizeLine/\(a==sysModules)=false /\
   ∃xs,KT H kvs xs/\h.DictOfH (tupleKind (cN P w)) a xs:=jh ok (.inl e)
end
abbrev eJ (H:Hp) (a:Mc) (y:V) (r:JK V):Prop :=
 (∃kvs k,Rd H a (.dK kvs)/\y=kV k/\r=bM kvs k)\/∃kvs k b,Rd H a (.dT kvs)/\y=↥b/\H b=⇑(.tup (k.map kV))/\r=bM kvs k
abbrev eK (H:Hp) (a:Mc) (y v:V) (H':Hp):Prop :=
 (∃kvs k,H a=⇑(.dK kvs)/\y=kV k/\kvs.length<sizeLine/\H'=upd H a (.dK (ae kvs k v))) \/
 ∃kvs k b,H a=⇑(.dT kvs)/\y=↥b/\H b=⇑(.tup (k.map kV))/\kvs.length<sizeLine/\H'=upd H a (.dT (ae kvs k v))
def eJ.k {H:Hp} {a:Mc} {kvs:List (aI×V)} {k:aI} (e:H a=⇑(.dK kvs)):eJ H a (kV k) (bM kvs k):=.inl #[kvs,k,.inl e,7]
def eK.k {H:Hp} {a:Mc} {kvs:List (aI×V)} {k:aI} {v:V} (e:H a=⇑(.dK kvs)) (hl:kvs.length<sizeLine):eK H a (kV k) v (upd H a (.dK (ae kvs k v))):=.inl #[kvs,k,e,rfl,hl,rfl]
section
variable {X:Cx} {pins:List (Mc×Obj)} {σ:St} {H:Hp} {s:Mb} {a:Mc} {y v:V} {u r:Ma} {o:JK V} {A:Around} {E:Ma->Mb->Prop}
def Inv.big (I:Inv X pins σ H s):sysModules<s.heap.objs.size:=by have h:mainGlobals<s.heap.objs.size:=(I.mod.glob.keeps I.bk).lt;exact Le #[] h
def HN {Q:Ma->Mb->Prop} (hu:A.units+1<cLine) (I:Inv X pins σ H s) (g:eJ H a y ⇑v) (ry:bC y u) (h:∀w' s',Inv X pins σ H s'->bC v w'->Q w' s') :
   wpAny 0x5 A (getItem ↥a u) Q E s:=by
 rcases g with⟨kvs,k,e,ey,l⟩|⟨kvs,k,b,e,ey,eb,l⟩
 . subst ey;let#[z,hd,vs,rel,dd]:=jx I.hok e;let#[w',hw,rw']:=dQ.some_of (v:=v) (o:=valueAt vs k) (by rw[l]; exact rel.val k);exact wpAny_getItem_of (im ry) dd.mapOf hw (h w' _ (I.tok _) rw')
 . subst ey;cases (show u=Value.ref b from ry);let#[z,hd,xs,rel,dd]:=jh I.hok e;let#[w',hw,rw']:=dQ.some_of (v:=v) (o:=(atKey xs k).map (·.2)) (by rw[l]; exact rel.val k);let#[p,hp,hp2]:=Jg.mp hw;refine wpAny_getItem_heap (tupleKind_room_in1 hu) (lO I.hok eb) dd hp ?_;rw[hp2];exact h w' _ (I.tok _) rw'
def Cy {Q:Ma->Mb->Prop} (hu:A.units+1<cLine) (I:Inv X pins σ H s) (g:eJ H a y o) (ry:bC y u) (h:∀s',Inv X pins σ H s'->Q (.bool o.isSome) s') :
   wpAny 0x5 A (compareOp .In u ↥a) Q E s:=by
 rcases g with⟨kvs,k,e,ey,l⟩|⟨kvs,k,b,e,ey,eb,l⟩
 . subst ey;let#[z,hd,vs,rel,dd]:=jx I.hok e;refine wpAny_in_of (im ry) hd dd.mapOf ?_;rw[<- (rel.val k).isSome_eq,<- l];exact h _ (I.tok _)
 . subst ey;cases (show u=Value.ref b from ry);let#[z,hd,xs,rel,dd]:=jh I.hok e;refine wpAny_in_heap (tupleKind_room_in1 hu) (lO I.hok eb) hd dd ?_;have q:=(rel.val k).isSome_eq;rw[Option.isSome_map] at q;rw[<- q,<- l];exact h _ (I.tok _)
def oU {h':Heap} {t':Nat} {ob:HO} (I:Inv X pins σ H s) (mu:lV (H a)) (hs:Heap.SameBut a s.heap h') (he:∃q,h'.get? a=⇑q) (new:cJ X.prog X.w (upd H a ob) h' a ob) :
   Inv X pins σ (upd H a ob) { s with heap:=h',toks:=t' } :=
 I.write (x:=a) (e:=a) mu (.inl rfl) (λb q hb z=>(hs.2 b hb)\z) he new
def rh {P:Program} {h':Heap} {kvs:List (aI×V)} {vs:List (aI×Ma)} (z:kvs.length<=sizeLine) (hd:(a==sysModules)=false) (rel:KV kvs vs) (dd:h'.DictOf (cN P w) a vs) :
   cJ P w H' h' a (.dK kvs):=#[z,hd,vs,rel,dd]
def Ba {Q:Unit->Mb->Prop} (hu:A.units+1<cLine) (I:Inv X pins σ H s) (g:eK H a y v H') (ry:bC y u) (rv:bC v r) (h:∀s',Inv X pins σ H' s'->Q () s') :
   wpAny 0x5 A (setItem ↥a u r) Q E s:=by
 rcases g with⟨kvs,k,e,ey,l,eH⟩|⟨kvs,k,b,e,ey,eb,l,eH⟩
 . subst ey eH;let#[z,hd,vs,rel,dd]:=nF I.hok e;have hz:vs.length<=sizeLine:=by rw[<- rel.length]; exact z
   have hl:(ae kvs k v).length<=sizeLine:=by have:=fV kvs k v; lia
   refine wpAny_setItem_pairs (hsz:=hz) (im ry) dd λh' dd' hs=>h _ ?_;have he:∃q,h'.get? a=⇑q:=by let#[q,_,_,hq,_]:=dd'; show#[q,hq]
   exact oU I (by rw[e]; exact True.intro) hs he (rh hl hd (rel.put k rv) dd')
 . subst ey eH;cases (show u=Value.ref b from ry);let#[z,hd,xs,rel,dd]:=BF I.hok e;have hz:xs.length<=sizeLine:=by rw[<- Paired.length rel]; exact z
   have hl:(ae kvs k v).length<=sizeLine:=by have:=fV kvs k v; lia
   refine wpAny_setItem_heap (hsz:=hz) (tupleKind_room_in1 hu) (lO I.hok eb) dd λh' dd' hs=>h _ ?_;let#[q,es,ep,hq,h2,h3,h4,_,h5]:=dd';refine oU I (by rw[e]; exact True.intro) hs #[q,hq] #[hl,hd,_,(rel.put k eb rv).keeps λc ys ec=>?_,q,es,ep,hq,h2,h3,h4,h5];rw[am (fq ec e (λz=>nomatch z))];exact ec
end
abbrev xB (i:Expr):Prop:=∀ov iv,subscripted i false ov iv=operate [ov,iv] (getItem ov iv)
def Hr {prog:Program} {A:Around} {E:Ma->Mb->Prop} {s:Mb} {env:Env} {value slice:Expr} {pos:Pos} {T id:String} {Q:Ma->Mb->Prop}
   (hl:typeLookup (.type T) "__getitem__"=pure ⇑(.builtin id)) (hs:xB slice)
   (h:wpAny 0x9 A (eval value env) (λo s₁=>wpAny 0x9 A (eval slice env) (λi s₂=>s₂.TypeIs o T/\wpAny 0x9 A (getItem o i) Q E s₂) E s₁) E s) :
   wpAny 0x9 A (eval (.Subscript value slice pos) env) Q E s:=by
 refine Subscript_ (LI h (λo s₁ h₁=>LI h₁ (λi s₂ h₂=>?_) λ_ _ x=>x) λ_ _ x=>x);let#[hT,h₂]:=h₂;unfold subscriptTail;refine JD ?_;rw[getitemInPython_of_ne hT.not_modules];refine JD (MR hT hl ?_);have fin:wpAny 0x9 A (subscripted slice false o i) (λr s₃=>wpAny 0x9 A (letTemporaryGo value o r >>= λ_=>pure r) Q E s₃) E s₂:=by rw[hs o i];exact wpAny_operating (LI h₂ (λr s₃ h₃=>JD (wpAny_letTemporaryGo (JQ h₃))) λ_ _ x=>x)
 first
   | exact JQ (JD fin)
   | exact JD (JQ (JD fin))
   | exact JD fin
def Em {pins:List (Mc×Obj)} {σ:St} {s:Mb} {a:Mc} {o:JK V} (I:Inv X pins σ H s) (g:eJ H a y o):s.TypeIs ↥a "dict":=by
 rcases g with⟨kvs,k,e,_,_⟩|⟨kvs,k,b,e,_,_,_⟩
 . let#[_,_,vs,_,dd]:=jx I.hok e;exact dd.typeIs
 . let#[_,_,xs,_,dd]:=jh I.hok e;exact dd.typeIs
abbrev Aa (td ty:TE):TE:=λσ H Q=>td σ H λx H1=>ty σ H1 λy H2=>∃a v,x=↥a/\eJ H2 a y ⇑v/\Q v H2
abbrev Gw (ty td:TE):TE:=λσ H Q=>ty σ H λy H1=>td σ H1 λx H2=>∃a o,x=↥a/\eJ H2 a y o/\Q (.bl o.isSome) H2
abbrev DS (td ty tv:TE):TS:=λD σ H=>tv σ H λv H1=>td σ H1 λx H2=>ty σ H2 λy H3=>∃a H4,x=↥a/\eK H3 a y v H4/\D.nx σ H4
section
variable {X:Cx} {o i e value:Expr} {pos pos' tpos:Pos} {td ty tv:TE}
def jF (hu:X.A.units+1<cLine) (ho:PE X o td) (hi:PE X i ty) (hs:xB i):PE X (.Subscript o i pos) (Aa td ty):=by intro pins s σ H Q I h;refine Hr PySem.F.slot_dict_getitem.lookup hs (al (ho pins s σ H _ I h) λu s1 z106_=>z106_.e λx H1 I1 rx q1=>al (hi pins s1 σ H1 _ I1 q1) λiv s2 z107_=>?_);let#[y,H2,I2,ry,a,v,ex,g,q2]:=z107_;subst ex;obtain rfl:u=Value.ref a:=rx;show#[Em I2 g,HN hu I2 g ry λw' s3 I3 rw'=>#[v,H2,I3,rw',q2]]
def F1 (hu:X.A.units+1<cLine) (hi:PE X i ty) (ho:PE X o td):PC X .In i o (Gw ty td):=by intro pins s σ H Q I h;refine al (hi pins s σ H _ I h) λiv s1 z108_=>z108_.e λy H1 I1 ry q1=>al (ho pins s1 σ H1 _ I1 q1) λu s2 z109_=>?_;let#[x,H2,I2,rx,a,ov,ex,g,q2]:=z109_;subst ex;obtain rfl:u=Value.ref a:=rx;exact Cy hu I2 g ry λs3 I3=>#[.bl ov.isSome,H2,I3,rfl,q2]
def fw (hu:X.A.units+1<cLine) (ho:PE X o td) (hi:PE X i ty) (hv:PE X value tv) (hs:swapsWith value ⇑(.Subscript o i pos') pos.line X.env=pure false) :
   PS X (.Assign [.Subscript o i pos'] value pos) (DS td ty tv):=by
 intro pins s σ H D I h;refine wpAny_Assign_Subscript (al (hv pins s σ H _ I h) λr s1 z112_=>z112_.e λv H1 I1 rv q1=>al (ho pins s1 σ H1 _ I1 q1) λu s2 z113_=>z113_.e λx H2 I2 rx q2=>al (hi pins s2 σ H2 _ I2 q2) λiv s3 z114_=>?_) hs;let#[y,H3,I3,ry,a,H4,ex,g,q3]:=z114_;subst ex;obtain rfl:u=Value.ref a:=rx;exact Ba hu I3 g ry rv λs4 I4=>#[σ,H4,I4,q3]
end
def sO {P:Program} (h:Heap) (hb:sysModules<h.objs.size):cJ P w H (h.push { cls:=.type "dict",data:=.dict 0xA }) h.objs.size (.dK []) :=
 #[Jm _,beq_eq_false_iff_ne.mpr (Ne.symm (Js hb)),[],.nil,Heap.DictOf.new h]
abbrev Es:TE:=λ_ H Q=>∀p,H p=none->Q ↥p (upd H p (.dK []))
section
variable {X:Cx} {pos:Pos}
def gX:PE X (.Dict [] [] pos) Es:=λpins s σ H Q I h =>
 wpAny_Dict_empty #[↥s.heap.objs.size,_,I.laid (a:=s.heap.objs.size) (o:=.dK []) (t':=s.toks) (λ_ _ q=>JJ _ q) (JN _) (sO s.heap I.big),rfl,h _ (I.hok.fresh (JN _))]
end
structure M2 (X:Cx) (o:Expr) (m:Str) (apos:Pos) (e f:Expr) (cpos:Pos):Prop where
 base:attributeBase o m X.env (eval o X.env)=eval o X.env
 few:((backTo cpos (starEach [e,f] X.env)).all (λx=>!x.1)&&(backToKw cpos (keywordEach [] X.env)).all (λx=>x.1.isSome)
   && decide (([e,f]:List Expr).length+([]:List Keyword).length+(if([]:List Keyword).isEmpty then 0 else 1)<30))=true
 line:(apos.endLine==cpos.line)=true
 trees:backTo cpos (starEach [e,f] X.env)=[(false,eval e X.env),(false,eval f X.env)]
abbrev IsD (H:Hp) (a:Mc):Prop:=(∃kvs,Rd H a (.dK kvs))\/∃kvs,Rd H a (.dT kvs)
def B' {pins:List (Mc×Obj)} {σ:St} {s:Mb} {a:Mc} (I:Inv X pins σ H s) (d:IsD H a) :
   s.TypeIs ↥a "dict"/\(∀b,Value.ref a=↥b->∃ob,s.heap.get? b=⇑ob/\ob.dict=none)/\(a==sysModules)=false:=by
 rcases d with⟨kvs,e⟩|⟨kvs,e⟩
 . let#[_,hd,vs,_,dd]:=jx I.hok e;show#[dd.typeIs,λb q=>?_,hd];cases q;let#[ob,_,_,h1,h2,_]:=dd;show#[ob,h1,h2.2.1]
 . let#[_,hd,xs,_,dd]:=jh I.hok e;show#[dd.typeIs,λb q=>?_,hd];cases q;let#[ob,_,_,h1,h2,_]:=dd;show#[ob,h1,h2.2.1]
section
variable {X:Cx} {pins:List (Mc×Obj)} {σ:St} {H:Hp} {s:Mb} {a:Mc} {y d:V} {u r:Ma} {o:JK V} {A:Around} {E:Ma->Mb->Prop}
def HQ {Q:Ma->Mb->Prop} (hu:A.units+1<cLine) (I:Inv X pins σ H s) (g:eJ H a y o) (ry:bC y u) (rd:bC d r) (h:∀w' s',Inv X pins σ H s'->bC (o.getD d) w'->Q w' s') :
   wpAny 0x5 A (call (.builtin "dict.get") [↥a,u,r]) Q E s:=by
 rcases g with⟨kvs,k,e,ey,l⟩|⟨kvs,k,b,e,ey,eb,l⟩
 . subst ey;let#[z,hd,vs,rel,dd]:=jx I.hok e;refine call_meetsIn Lb dd.typeIs PySem.F.entry_dict_get (MJ _ _ _) (meets_dict_get_default (cN X.prog X.w) a (im ry) hd r) #[_,dd.mapOf,h _ _ (I.tok _) ?_];rw[l];exact(rel.val k).getD rd
 . subst ey;cases (show u=Value.ref b from ry);let#[z,hd,xs,rel,dd]:=jh I.hok e;refine call_meetsIn Lb dd.typeIs PySem.F.entry_dict_get (MJ _ _ _) (meetsH_dict_get_default (tupleKind (cN X.prog X.w)) a b hd r) #[tupleKind_room_in1 hu,k,xs,lO I.hok eb,dd,h _ _ (I.tok _) ?_];rw[l];exact(rel.val k).getD rd
end
abbrev Db (td ty tx:TE):TE:=λσ H Q=>td σ H λx H1=>∃a,x=↥a/\IsD H1 a/\ty σ H1 λy H2=>tx σ H2 λz H3=>∃o,eJ H3 a y o/\Q (o.getD z) H3
section
variable {X:Cx} {o e f:Expr} {apos cpos:Pos} {td ty tx:TE}
def qZ (hu:X.A.units+1<cLine) (ho:PE X o td) (he:PE X e ty) (hf:PE X f tx) (m:M2 X o "get" apos e f cpos):PE X (.Call (.Attribute o "get" apos) [e,f] [] cpos) (Db td ty tx):=by
 intro pins s σ H Q I h;refine wpAny_Call_method m.base m.few m.line MK Lb PySem.F.type_dict_get (al (ho pins s σ H _ I h) λu s1 z127_=>?_);let#[x,H1,I1,rx,a,ex,d,q1]:=z127_;subst ex;obtain rfl:u=Value.ref a:=rx;let#[t1,t2,_]:=B' I1 d;show#[t1,t2,?_];rw[m.trees];refine Calls.callWith_builtin rfl (Calls.evalArgs_plain (Calls.spliced_cons (al (he pins s1 σ H1 _ I1 q1) λiv s2 ⟨y,H2,I2,ry,q2⟩ =>
   Calls.spliced_cons (al (hf pins s2 σ H2 _ I2 q2) λfv s3 ⟨z,H3,I3,rz,ov,g,q3⟩=>Calls.spliced_nil ?_))))
 exact HQ hu I3 g ry rz λw' s4 I4 rw'=>#[_,H3,I4,rw',q3]
end
end L2
namespace PySem
def EZ:typeLookup (.type "list") "keys"=pure none:=by rw[typeLookup_type,builtinLookup_eq_fast]; kernel_rfl
def mP:entryFor table "dict.update.loop"=⇑Builtin.«dict.update.loop»:=entryFor_of_tree (by kernel_rfl)
def ic:plainId "dict.update.loop"=true:=by decide +kernel
def Cm {prog:Program} {w:World} {A:Around} {E:Ma->Mb->Prop} {s:Mb} {a:Mc} {o:Obj} {xs:Array Ma} {k:Nat} {Q:JK Ma->Mb->Prop}
   (hx:s.heap.get? a=⇑o) (hc:o.cls=.type "list") (hdat:o.data=.seq xs k) (hd:o.dict=none) (hA:A.handled=none)
   (h:∀h' tk,(∀b ob,s.heap.get? b=⇑ob->h'.get? b=⇑ob)->Q none { s with heap:=h',toks:=tk }) :
   wpAny 0x9 A (getAttr? ↥a "keys") Q E s:=by
 let#[c,dct,dat,sl]:=o;simp only at hc hdat hd;subst hc hdat hd;let#[hp,g,d,tk,os]:=s;have hT:∀tk',(⟨hp,g,d,tk',os⟩:Mb).TypeIs ↥a "list":=λ_=>#[_,hx,rfl]
 have f1:=sub_AttributeError;have f3:=LH.lookup;have f4:=LH.bind ↥a;have f5:=am_list_getattr_none;unfold getAttr? getAttrBy? getAttrBy
 repeat (any_goals (first|assumption|exact hT _|((with_reducible show wpAny _ _ (call (Value.builtin "list.__getattribute__") _ _) _ _ _); refine call_meets LH (hT _) am_entry_list_getattribute (F.args_list_getattribute_2 _ _) (meets_getattribute_miss_list a xs k sl "keys" _ EZ 0x3 0x3) #[hx,hA,λh' tk' e hx'=>?_])|wp_step))
 let#[t',u',he]:=hx'.there
 try (show wpAny _ _ (getattributeRaised _ _ _ _ _ _ _) _ _ _)
 try unfold getattributeRaised
 repeat (any_goals (first|assumption|wp_step))
 all_goals (first|exact h _ _ hx'.keeps|trace_state)
end PySem
namespace L2
open PySem PySem.Spec PyProof.Rows
section
variable {X:Cx} {pins:List (Mc×Obj)} {σ:St} {H:Hp}
def qY {α β:Type} {F:α->β->Prop}:∀{l:List α} {m:List β},Paired F l m->∀{i:Nat} (h1:i<l.length) (h2:i<m.length),F l[i] m[i]
 := by
 intro l m h
 induction h with
 | nil=>intro i h1; simp at h1
 | cons h t ih =>
   intro i h1 h2;cases i with
   | zero=>exact h
   | succ i =>
     have:=ih (i:=i) ↑h1 ↑h2;simpa using this
def Gm {A:Around} {R:Result->Mb->Prop} {p D it:Mc} {ps:List Mc} {kvs:List (aI×V)} (hA:A.handled=none) (hpD:p≠D) (hS:aE X.K H p (ps.map V.ref)) (hps:Paired (λa (kv:aI×V)=>aD X.K H a [kV kv.1,kv.2]) ps kvs)
   (hD:H D=none) (hz:kvs.length<=100000) (hit0:it≠D)
   (hR:∀s',Inv X pins σ (upd H D (.dK (kvs.foldl 0x2 []))) s'->R (.ok (.ret .none)) s') :
   ∀(k i:Nat) (t:Tok) (s:Mb),kvs.length - i=k->i<=kvs.length->Inv X pins σ (upd H D (.dK ((kvs.take i).foldl 0x2 []))) s->s.heap.IsListIter it p i ->
     (∀H',H' it=none->fL X pins H' it)->H it=none->codeAny 0x5 A (.builtin "dict.update.loop" #[[↥D,↥it,.int (i:Nat) t,.none],[]]) R s:=by
 have sameD:∀o,aA H (upd H D o):=λo=>aA.new hD;have hlen:ps.length=kvs.length:=hps.length;have flen:∀(l:List (aI×V)) (acc:List (aI×V)),(l.foldl 0x2 acc).length<=acc.length+l.length:=by
   intro l
   induction l with
   | nil=>intro acc; simp
   | cons x r ih =>
     intro acc;rw[L3];have h1:=ih (ae acc x.1 x.2);have h2:=fV acc x.1 x.2;simp only[Jo]
     lia
 have big:(100000:Nat)<sizeLine:=by decide
 intro k
 induction k with
 | zero =>
   intro i t s hk hi I hit hfp hHit;have e:i=kvs.length:=by lia
   subst e;rw[Jw] at I;let#[its,rv,pl,hz']:=I.list ((sameD _).seq hS);let#[f0,f1,f2,f3,f4,f5]:=hfp (upd H D (.dK (kvs.foldl 0x2 []))) (by rw[am hit0]; exact hHit);refine Lg mP ?_;rw[Around.under_plainId ic _];show wpAny _ A.in1 (pyNext ↥it >>= _) _ _ s;have hl:=rv.length;rw[JE] at hl;refine JD (wpAny_pyNext_list_end hA hit pl.isList (by simp; lia) λh' eb=>?_);have I1:Inv X pins σ (upd H D (.dK (kvs.foldl 0x2 []))) { s with heap:=h' }:=I.turned (t':=s.toks) (λb o hb e=>eb b o hb e) f0 f1 f3 f4 f5;show wpAny _ _ (Builtin.Dict.addKeywords D [] >>= _) _ _ _;exact JD (JQ (JQ (hR _ I1)))
 | succ k ih =>
   intro i t s hk hi I hit hfp hHit;have hlt:i<kvs.length:=by lia
   let#[its,rv,pl,hz']:=I.list ((sameD _).seq hS);have hpi:(ps.map V.ref)[i]?=⇑↥(ps[i]'∅):=by simp [show i<ps.length by lia]
   let#[u,hu,ru]:=rv.get hpi;cases (show u=Value.ref _ from ru);let#[f0,f1,f2,f3,f4,f5]:=hfp (upd H D (.dK ((kvs.take i).foldl 0x2 []))) (by rw[am hit0]; exact hHit);refine Lg mP ?_;rw[Around.under_plainId ic _];show wpAny _ A.in1 (pyNext ↥it >>= _) _ _ s;refine JD (wpAny_pyNext_list_item hit pl.isList (x:=.ref ps[i]) ↑hu λh' hit' sb=>?_);have I1:Inv X pins σ (upd H D (.dK ((kvs.take i).foldl 0x2 []))) { s with heap:=h' }:=I.turned (t':=s.toks) (λb o hb e=>(sb.2 b hb)\e) f0 f1 f3 f4 f5;have hpair:aD X.K H ps[i] [kV (kvs[i]).1,(kvs[i]).2]:=qY hps ∅ hlt;obtain⟨its2,rv2,⟨o2,ho2,hc2,n2,hd2⟩,_⟩:=I1.tuple ((sameD _)<*hpair);cases rv2 with
   | cons r1 rr =>
     cases rr with
     | cons r2 rr =>
       cases rr
       rename_i ku vu
       refine JD (K6 (JD (wpAny_tryCatch ?_)));show wpAny _ _ (Builtin.Dict.pairItems (.ref ps[i])) _ _ _;unfold Builtin.Dict.pairItems;refine JD (Kz (T:="tuple") #[o2,ho2,hc2] ?_);rw[JR #[]];refine JD ?_;show wpAny _ _ (load ps[i] >>= _) _ _ _;refine JD (wpAny_load ho2 ?_);rw[hd2];refine JQ (JQ ?_);show wpAny _ _ (holding [ku,vu] (dictSet D ku vu)) _ _ _;refine K6 ?_;let#[z,hd,vs,rel,dd]:=nF I1.hok aG;have hl1:=flen (kvs.take i) [];have hl2:(kvs.take i).length<=kvs.length:=by rw[Jk]; lia
       simp only[Kt,Nat.zero_add] at hl1;have hzv:vs.length<=sizeLine:=by rw[<- rel.length]; exact z
       refine wpAny_dictSet_pairs (hsz:=hzv) (im r1) dd λh2 dd2 hs2=>?_;have he:∃q,h2.get? D=⇑q:=by let#[q,_,_,hq,_]:=dd2; show#[q,hq]
       have hl3:(ae ((kvs.take i).foldl 0x2 []) (kvs[i]).1 (kvs[i]).2).length<=sizeLine:=by
         have:=fV ((kvs.take i).foldl 0x2 []) (kvs[i]).1 (kvs[i]).2
         lia
       have I2:=oU (t':=({ s with heap:=h' }:Mb).toks+1) I1 (by rw[aG]; exact True.intro) hs2 he (rh hl3 hd (rel.put (kvs[i]).1 r2) dd2);rw[oE] at I2;have e3:(kvs.take (i+1)).foldl 0x2 []=ae ((kvs.take i).foldl 0x2 []) (kvs[i]).1 (kvs[i]).2:=by rw[KE,K0];simp [hlt]
       rw[<- e3] at I2;have hit2:h2.IsListIter it p (i+1):=by let#[oi,hoi,ri]:=hit';show#[oi,(hs2.2 it hit0)\hoi,ri]
       refine JQ #[plainId_quiet ic _,?_];have:=ih (i+1) 0 _ ∅ ∅ I2 hit2 hfp hHit;exact this
end
section
variable {X:Cx}
abbrev FU (K:Md):List V->Hp->VK->Prop:=λxs H Q=>∃(p:Mc) (ps:List Mc) (kvs:List (aI×V)),xs=[↥p]/\aE K H p (ps.map V.ref)/\Paired (λa (kv:aI×V)=>aD K H a [kV kv.1,kv.2]) ps kvs/\kvs.length<=100000 /\
 ∀d,H d=none->Q ↥d (upd H d (.dK (kvs.foldl 0x2 [])))
def sY (hc:X.calm=true):bX X (.type "dict") (FU X.K):=by
 intro pins s σ H xs us Q I r h;let#[p,ps,kvs,rfl,hS,hps,hz,q]:=h;let#[u,rfl,ru]:=i9 r;cases (show u=Value.ref p from ru);have hA:=I.ok.hd hc;have hD:H s.heap.objs.size=none:=I.hok.fresh (JN _);let#[its,rv,pl,_]:=I.list hS;have hplt:p<s.heap.objs.size:=pl.lt;have I0:Inv X pins σ (upd H s.heap.objs.size (.dK [])) { s with heap:=s.heap.push { cls:=.type "dict",data:=.dict 0xA } } :=
   I.laid (a:=s.heap.objs.size) (o:=.dK []) (t':=s.toks) (λ_ _ q=>JJ _ q) (JN _) (sO s.heap I.big)
 refine callType_codes (Q₁:=λobj s₁=>obj=↥s.heap.objs.size/\s₁={ s with heap:=s.heap.push { cls:=.type "dict",data:=.dict 0xA } }) PySem.F.kt_called_dict (M1 _) ML (kt_code_dict_new _ #[7]) ?_;rintro obj s₁ ⟨rfl,rfl⟩;have hnew:(s.heap.push { cls:=.type "dict",data:=.dict 0xA }).DictOf (cN X.prog X.w) s.heap.objs.size []:=Heap.DictOf.new s.heap;show#[hnew.typeIs,MD _ _,?_];unfold Builtin.«dict.__init__»;refine JD ?_;unfold Builtin.Dict.selfAndRest;refine JD (wpAny_notOrdered_dict hnew.typeIs ?_);show wpAny _ _ (pure (s.heap.objs.size,[Value.ref p])) _ _ _;refine JQ ?_;show wpAny _ _ (Builtin.Dict.updateFrom "dict.__init__" s.heap.objs.size ↥p [] .none) _ _ _;unfold Builtin.Dict.updateFrom;let#[o,n,ho,hcl,hdi,hda]:=pl;have ho1:(s.heap.push { cls:=.type "dict",data:=.dict 0xA }).get? p=⇑o:=JJ _ ho;refine JD (Kz (T:="list") #[o,ho1,hcl] ?_);rw[JR #[]];refine JD (Cm (s:={ s with heap:=s.heap.push { cls:=.type "dict",data:=.dict 0xA } }) ho1 hcl hda hdi hA λh' tk hk=>?_);have I1:Inv X pins σ (upd H s.heap.objs.size (.dK [])) { s with heap:=h',toks:=tk }:=I0.kept hk;rw[JR 0x0];refine JD (Lh ?_);have ho2:h'.get? p=⇑o:=hk _ _ ho1;refine JD (Kw (s:={ s with heap:=h',toks:=tk }) (items:=its.toArray) #[o,ho2,hcl,n,hda] ?_);have I2:Inv X pins σ (upd H s.heap.objs.size (.dK [])) { s with heap:=h'.push { cls:=.type "list_iterator",data:=.fields (List.toArray [↥p,.int 0 0]) },toks:=tk }:=I1.kept (t':=tk) λb o e=>JJ _ e;have hsz:s.heap.objs.size<h'.objs.size:=by have e:(s.heap.push { cls:=.type "dict",data:=.dict 0xA }).get? s.heap.objs.size=some { cls:=.type "dict",data:=.dict 0xA }:=Jb _ rfl;exact JX (hk _ _ e)
 have hit0:h'.objs.size≠s.heap.objs.size:=Ka hsz;have hHit:H h'.objs.size=none:=I.hok.fresh (LC hsz);refine JQ #[plainId_quiet ic _,?_];refine Gm (A:=X.A.in1) (it:=h'.objs.size) hA (Js hplt) hS hps hD hz hit0 (λs' J=>#[rfl,↥s.heap.objs.size,_,J,rfl,q _ hD]) kvs.length 0 0 _ ∅ (Jm _) ↑I2 #[_,Jb _ rfl,7] (λH' hn=>I1.fpOk (JN _) hn) hHit
def xD:∀(xs:List V) (us:List Ma),xs.length=us.length->(∀(i:Nat) (x:V) (u:Ma),xs[i]?=⇑x->us[i]?=⇑u->bC x u)->ao xs us
 | [],[],_,_=>.nil
 | [],_::_,h,_=>by simp at h
 | _::_,[],h,_=>by simp at h
 | x::xs,u::us,h,k=>.cons (k 0 x u rfl rfl) (xD xs us ↑h λi y v e1 e2=>k (i+1) y v ↑e1 ↑e2)
def uY {P:Program} {w:World} {k:aI} {v:Ma} (h:(cN P w).is k v=true):bC (kV k) v:=by
 rcases gK (show iq k v=true from h) with⟨i,t,rfl,rfl⟩|⟨x,t,rfl,rfl⟩
 . show#[t,rfl]
 . show#[t,rfl]
def Ed {P:Program} {w:World} {kvs:List (aI×V)} {vs:List (aI×Ma)} {acc:Array Ma} (rel:KV kvs vs) (h:ItemsOf (λi v=>∃k x,vs[i]?=⇑(k,x)/\(cN P w).is k v=true) acc vs.length) :
   ao (kvs.map λkv=>kV kv.1) acc.toList:=by
 have hl:=rel.length;have el:acc.toList.length=acc.size:=by simp
 have hlen:(kvs.map λkv=>kV kv.1).length=acc.toList.length:=by rw[JE,el,h.1]; exact hl
 refine xD _ _ hlen λi x u e1 e2=>?_;let#[k,y,e3,e4]:=h.2 i u ↑e2;rw[JS] at e1;cases e5:kvs[i]? with
 | none=>rw[e5] at e1; cases e1
 | some kv =>
   rw[e5] at e1;have e1:kV kv.1=x:=↑e1
   have e6:kv.1=k:=by
     have h1:i<kvs.length:=(JH.mp e5).1;have h2:i<vs.length:=by lia
     have e7:=qY rel h1 h2;have e8:kvs[i]=kv:=by have:=JH.mp e5; exact this.2
     have e9:vs[i]=(k,y):=by have:=JH.mp e3; exact this.2
     rw[e8,e9] at e7;exact e7.1
   rw[<- e1,e6];exact uY e4
def J2 (hc:X.calm=true):bX X (.type "list") (λxs H Q=>∃d kvs,xs=[↥d]/\H d=⇑(.dK kvs)/\∀l,H l=none->Q ↥l (upd H l (.lst (kvs.map λkv=>kV kv.1)))):=by intro pins s σ H xs us Q I r h;let#[d,kvs,rfl,hd,q]:=h;let#[u,rfl,ru]:=i9 r;cases (show u=Value.ref d from ru);let#[z,lo,vs,rel,dd]:=nF I.hok hd;have hlen:=rel.length;obtain⟨ep,dat⟩:∃ep,s.heap.DictAt (cN X.prog X.w) d vs ep:=dd.dictAt;refine PySem.W.kdl_call (PySem.W.kdl_dict (knd:=cN X.prog X.w) (kvs:=vs) (ep:=ep) lo) (I.ok.hd hc) dat (by rw[<- hlen]; exact z) λh' tk acc' c' hk hS hit=>?_;have hv:ao (kvs.map λkv=>kV kv.1) acc'.toList:=Ed rel hit;show#[↥s.heap.objs.size,_,I.laid (a:=s.heap.objs.size) (o:=.lst (kvs.map λkv=>kV kv.1)) hk (JN _) #[by rw[JE]; exact z,acc'.toList,c',hv,by simpa using hS],rfl,q _ (I.hok.fresh (JN _))]
end
end L2
namespace L2
open PySem PySem.Spec PyProof.Rows PySem.W
section
variable {prog:Program} {w:World} {A:Around} {E:Ma->Mb->Prop} {s:Mb} {δ:Type} {R:δ->Ma->Prop} {a:Mc} {D:List (Str×δ)} {k:Str} {tk:Tok} {d:δ}
def nB (T:KTD.TabOf R s.heap a D):s.TypeIs ↥a "dict":=by let#[_,o,_,_,ho,hc,_]:=T; show#[o,ho,hc.1]
def wJ {Q:Ma->Mb->Prop} (T:KTD.TabOf R s.heap a D) (hd:KTD.datumAt k D=⇑d) (h:∀v,R d v->Q v { s with toks:=s.toks+1 }) :
   wpAny 0x9 A (getItem ↥a (.str k tk)) Q E s:=by
 have ty:=nB T;let#[_,o,es,ep,ho,hc,hdt,hr]:=T;unfold getItem
 try with_reducible refine K6 ?_
 refine JD (M7 ty #[] ?_);refine JD (wpAny_callSpecial?_slot (name:=Str.ofString "__getitem__") ty slot_dict_getitem
   (KJ slot_dict_getitem ty entry_dict_getitem ?_ (args_dict_getitem _ _)))
 show wpAny _ _ (dictGet a (.str k tk) >>= _) _ _ s;refine JD ?_;unfold dictGet
 try with_reducible refine K6 ?_
 refine JD (M9 (JD (KTD.kt_dictFind_strs (s:={ s with toks:=s.toks+1 }) ho hdt (by obtain⟨l⟩:=es; simpa using hr.exact) ?_)));have hq:∃v,findBy (λk v=>v.isStr k) es k=⇑v/\R d v:=by
   have hf:findBy (λk v=>v.isStr k) es k=(es.toList.find? λe=>e.key.isStr k).map (·.val):=by obtain⟨l⟩:=es;simp [findBy]
   rw[hf];exact hr.find_some hd
 let#[v,hv,hR]:=hq;rw[findBy_of_findIdx?] at hv;cases hi:es.findIdx? λe=>e.key.isStr k with
 | none=>rw[hi] at hv; cases hv
 | some i =>
   rw[hi] at hv;have hv:es[i]?.map (·.val)=⇑v:=hv;refine JD (wpAny_dictEntries (s:={ s with toks:=s.toks+1 }) ho hdt (JQ ?_));show wpAny _ _ _ _ _ _;rw[hv];exact JQ #[v,rfl,JQ (h v hR)]
end
abbrev rG (K:Md) (d:Mc) (rows:List (Str×List V)):Prop :=
 ∃(o:Obj) (es:Array DictEntry) (ep:Nat),K.lookup d=⇑o/\(d==sysModules)=false/\o.ExactDict/\o.data=.dict es ep/\KTD.Rows (λ(xs:List V) v=>∃a,v=↥a/\∀H:Hp,aD K H a xs) es.toList rows
abbrev Fc (K:Md):R2:=λx y H Q=>∃d rows k xs,x=↥d/\y=.str k/\rG K d rows/\KTD.datumAt k rows=⇑xs/\∀a,aD K H a xs->Q ↥a H
def IE {X:Cx}:fE X (Fc X.K):=by
 intro value slice pins s σ H x y v u Q I rx ry h hs;obtain⟨d,rows,k,xs,rfl,rfl,⟨o,es,ep,ho,lo,hc,hd,hr⟩,hk,q⟩:=h;cases (show v=Value.ref d from rx);let#[t,rfl]:=(show ∃t,u=Value.str k t from ry)
 have T:KTD.TabOf (λ(xs:List V) v=>∃a,v=↥a/\∀H:Hp,aD X.K H a xs) s.heap d rows:=#[lo,o,es,ep,I.kIn d o ho,hc,hd,hr]
 refine tail_any (nB T) slot_dict_getitem.lookup (wJ T hk λv hv=>?_) hs;let#[a,rfl,hsq]:=hv;show#[↥a,H,I.tok _,rfl,q a (hsq H)]
end L2
namespace L2
open PySem PySem.Spec PyProof.Rows
abbrev pN:V->Ma->Bool
 | .non,.none=>true
 | .bl b,.bool c=>b==c
 | .int i,.int j _=>i==j
 | .str x,.str y _=>x==y
 | _,_=>false
def En:∀{x:V} {v:Ma},pN x v=true->bC x v:=by
 intro x v h;unfold pN at h;split at h
 . rfl
 . obtain rfl:=beq_iff_eq.mp h; rfl
 . obtain rfl:=beq_iff_eq.mp h; show#[5]
 . obtain rfl:=beq_iff_eq.mp h; show#[5]
 . cases h
abbrev jL:List V->List Ma->Bool
 | [],[]=>true
 | x::xs,v::vs=>pN x v&&jL xs vs
 | _,_=>false
def wu:∀{xs:List V} {vs:List Ma},jL xs vs=true->ao xs vs
 | [],[],_=>.nil
 | x::xs,v::vs,h=>by simp only[jL,Jl] at h;exact .cons (En h.1) (wu h.2)
 | [],_::_,h=>by simp [jL] at h
 | _::_,[],h=>by simp [jL] at h
abbrev mV (K:Md) (xs:List V) (v:Ma):Bool:=match v with
 | .ref a=>match K.lookup a with
   | some o=>o.cls==.type "tuple"&&(match o.data with | .seq its _=>decide (its.size<=sizeLine)&&jL xs its.toList|_=>false)
   | none=>false
 | _=>false
def FN {K:Md} (xs:List V) (v:Ma) (h:mV K xs v=true):∃a,v=↥a/\∀H:Hp,aD K H a xs:=by
 unfold mV at h;split at h
 . rename_i a
   split at h
   . rename_i o ho
     rw[Jl] at h;let#[h1,h2]:=h;split at h2
     . rename_i its n hd
       rw[Jl] at h2;show#[a,rfl,λH=>.inr #[o,its,n,ho,beq_iff_eq.mp h1,hd,Ke h2.1,wu h2.2]]
     . cases h2
   . cases h
 . cases h
def Bk {K:Md} {d:Mc} {rows:List (Str×List V)} (h:KTD.tabLook (mV K) (λa=>K.lookup a) d rows=true):rG K d rows:=by
 simp only[KTD.tabLook,Jl] at h;let#[h0,hl]:=h;split at hl
 . rename_i o ho
   simp only[Jl] at hl;obtain⟨⟨⟨e1,e2⟩,e3⟩,e4⟩:=hl;split at e4
   . rename_i es ep hd
     show#[o,es,ep,ho,by simpa using h0,#[beq_iff_eq.mp e1,by simpa using e2,by simpa using e3],hd,KTD.rows_of_look FN e4]
   . cases e4
 . cases hl
end L2
namespace L2
open PySem
abbrev ui:Expr->JK (List V)
 | .List es _=>mz es
 | _=>none
def DI {X:Cx} {e:Expr} {vs:List V} (h:ui e=⇑vs):PE X e (tf λ_ H Q=>Q vs H):=by
 unfold ui at h;split at h
 . exact bQ (wX h)
 . cases h
end L2
namespace L2
open PySem PySem.Spec PyProof.Rows
section
variable {prog:Program} {w:World} {A:Around} {E:Ma->Mb->Prop} {s:Mb}
def gx_nextOf_tup {it t:Mc} {i:Nat} {items:Array Ma} {x:Ma} {Q:Ma->Mb->Prop} (hit:s.heap.IsTupleIter it t i) (ht:s.heap.IsTuple t items) (hx:items[i]?=⇑x)
   (hQ:∀h',h'.IsTupleIter it t (i+1)->Heap.SameBut it s.heap h'->Q x { s with heap:=h' }):wpAny 0x9 A (Builtin.SmallTypes.nextOf ↥it) Q E s:=by
 obtain⟨⟨o,ho,hc,hd⟩,⟨ol,hol,_,nl,hdl⟩⟩:=(#[id hit,ht]:_/\_)
 unfold Builtin.SmallTypes.nextOf; refine JD (wpAny_callSpecial?_slot (name:=Str.ofString "__next__") hit.typeIs Kv (KJ Kv hit.typeIs Ly ?_ (Lr _)));show wpAny 0x9 _ (field ↥it 0 >>= _) _ _ s; refine JD (K4 ho hd (x:=↥t) rfl ?_);show wpAny 0x9 _ (if(Value.ref t==Value.none)=true then _ else _) _ _ s; rw[JI (by exact Je)];show wpAny 0x9 _ (field ↥it 1 >>= _) _ _ s; refine JD (K4 ho hd (x:=.int i 0) rfl ?_);show wpAny 0x9 _ (seqItems? ↥t >>= _) _ _ s; refine JD (KW hol hdl ?_); simp only[KA,hx];refine JD (wpAny_setField ho hd 0x6 (JQ #[x,rfl,JQ (hQ _ #[_,LZ _ ho (Obj.isFreed_of_fields (Obj.data_mapFields hd _)),(Obj.cls_mapFields ..)\hc,by rw[Obj.data_mapFields hd]; simp [rawInt]] (Heap.SameBut.update ..))]))
def gx_nextOf_tup_end {it t:Mc} {i:Nat} {items:Array Ma} {Q:Ma->Mb->Prop} (hh:A.handled=none) (hit:s.heap.IsTupleIter it t i) (ht:s.heap.IsTuple t items) (hx:items[i]?=none)
   (hE:∀h' e,Heap.ExtBut it s.heap h'->(∃o,h'.get? e=⇑o/\o.cls=.type "StopIteration")->E ↥e { s with heap:=h' }):wpAny 0x9 A (Builtin.SmallTypes.nextOf ↥it) Q E s:=by
 obtain⟨⟨o,ho,hc,hd⟩,⟨ol,hol,_,nl,hdl⟩⟩:=(#[id hit,ht]:_/\_)
 unfold Builtin.SmallTypes.nextOf; refine JD (wpAny_callSpecial?_slot (name:=Str.ofString "__next__") hit.typeIs Kv (KJ Kv hit.typeIs Ly ?_ (Lr _)));show wpAny 0x9 _ (field ↥it 0 >>= _) _ _ s; refine JD (K4 ho hd (x:=↥t) rfl ?_);show wpAny 0x9 _ (if(Value.ref t==Value.none)=true then _ else _) _ _ s; rw[JI (by exact Je)];show wpAny 0x9 _ (field ↥it 1 >>= _) _ _ s; refine JD (K4 ho hd (x:=.int i 0) rfl ?_);show wpAny 0x9 _ (seqItems? ↥t >>= _) _ _ s; refine JD (KW hol hdl ?_); simp only[KA,hx];refine JD (Lh (JD (wpAny_setField ho hd 0x6 ?_))); show wpAny 0x9 _ (newExc (.type "StopIteration") [] >>= _) _ _ _;refine JD ?_; simp only[newExc,newTuple]; refine JD (Ko ?_ (by size_fits));refine JD (m:=firstArgMember _ _) (wpAny_of_eq (a:=Value.none) (by first|rfl|(simp only[firstArgMember]; rfl)) (Ko ?_ (by size_fits)));simp only[raiseNew]; refine JD (wpAny_handled ?_); first|rw[show A.in1.handled=none from hh] | rw[hh]
 refine JD (JQ (wpAny_throw (hE _ _ (((Heap.SameBut.update ..).extBut.push _).push _) #[_,Jb _ rfl,rfl])))
end
variable {w:World}
def tJ {prog:Program} {A:Around} (hh:A.handled=none) (it t:Mc) (hne:t≠it) (items:Array Ma) :
   Draws prog w A it [it,t] items.size (λi v=>items[i]?=⇑v) (λi h=>h.IsTupleIter it t i/\h.IsTuple t items) where
 live:=λ_ _ z135_=>by obtain⟨⟨o,ho,_⟩,_⟩:=z135_; show#[o,ho]
 frame:=λ_ _ _ z136_ hk=>by obtain⟨⟨o,ho,r⟩,⟨o2,ho2,r2⟩⟩:=z136_; show#[#[o,hk it 0x6 o ho,r],#[o2,hk t 0x6 o2 ho2,r2]]
 item:=λi s Q E hi z137_ hQ=>by let#[s1,s2]:=z137_; exact gx_nextOf_tup s1 s2 (x:=items[i]) (by simp [hi]) λh' hit' hs'=>hQ _ h' s.toks (by simp [hi]) #[hit',s2.extBut hs'.extBut hne] hs'
 done:=λs Q E z138_ hE=>by let#[s1,s2]:=z138_; exact gx_nextOf_tup_end hh s1 s2 0x6 hE
section
variable {X:Cx} {pins:List (Mc×Obj)} {σ:St} {H:Hp} {s:Mb} {h':Heap}
def Inv.turnedL {t':Nat} {ch:List Mc} (I:Inv X pins σ H s) (k:∀b o,b ∉ ch->s.heap.get? b=⇑o->h'.get? b=⇑o) (hf:∀b∈ch,fL X pins H b):Inv X pins σ H { s with heap:=h',toks:=t' }:=by
 have nit:∀b u,H b=⇑u->b ∉ ch:=λb u e z=>by rw[(hf b z).1] at e; cases e
 refine I.step (g':=s.gens) (d':=s.drawn) (ch:=ch) (λb hb=>#[(hf b hb).2.2.2.1,(hf b hb).2.1,(hf b hb).2.2.2.2.1,(hf b hb).2.2.2.2.2]) (λb o _ _ hc e _=>k b o hc e) (λb o _ _ hc e _=>#[o.slots,k b o hc e]) (λ_ _ _ _ n=>n) (λb o hc e=>#[o,k b o hc e]) (λ_ _ e=>e) (λ_ _ _ e=>e) (λb ps e=>#[0xA,by rw[e]; simp]) (λm hm=>?_) (λb u e=>?_) I.bare
 . let#[o,es,ep,ho,r]:=hm;show#[o,es,ep,k _ _ (λz=>(hf _ z).2.1 rfl) ho,r]
 . have key:∀c,c=b\/H c=⇑(.own b)->c ∉ ch:=λc hc=>by
     rcases hc with z|z
     . subst z; exact nit _ u e
     . exact nit c _ z
   exact(I.hok b u e).stay (λc v hc q=>k c v (key c hc) q) (λ_ q=>q) λ_ _ q=>q
def Inv.turnLaid {t':Nat} {ch:List Mc} {a:Mc} {o:HO} (I:Inv X pins σ H s) (k:∀b o,b ∉ ch->s.heap.get? b=⇑o->h'.get? b=⇑o) (hf:∀b∈ch,fL X pins H b) (hp:s.heap.objs.size<=a) (new:cJ X.prog X.w (upd H a o) h' a o) :
   Inv X pins σ (upd H a o) { s with heap:=h',toks:=t' }:=by
 have nit:∀b u,H b=⇑u->b ∉ ch:=λb u e z=>by rw[(hf b z).1] at e; cases e
 have hn:H a=none:=I.hok.fresh hp;refine I.step (g':=s.gens) (d':=s.drawn) (ch:=ch) (λb hb=>#[(hf b hb).2.2.2.1,(hf b hb).2.1,(hf b hb).2.2.2.2.1,(hf b hb).2.2.2.2.2]) (λb o _ _ hc e _=>k b o hc e) (λb o _ _ hc e _=>#[o.slots,k b o hc e]) (λb u _ q n=>by rw[am (λz=>by subst z; exact absurd (Ji (JX q) hp) (K2 _))]; exact n) (λb o hc e=>#[o,k b o hc e]) (λb xs q=>by rw[am (cS q hn)]; exact q) (λb u xs q=>by rw[am (cS q hn)]; exact q) (λb ps q=>#[0xA,by rw[am (cS q hn),q]; simp]) (λm hm=>?_) (λb u e=>?_) I.bare
 . let#[o,es,ep,ho,r]:=hm;show#[o,es,ep,k _ _ (λz=>(hf _ z).2.1 rfl) ho,r]
 . by_cases hb:b=a
   . subst hb;rw[aG] at e;cases e;exact new
   . rw[am hb] at e;have key:∀c,c=b\/H c=⇑(.own b)->c ∉ ch:=λc hc=>by
       rcases hc with z|z
       . subst z; exact nit _ u e
       . exact nit c _ z
     exact(I.hok b u e).stay (λc v hc q=>k c v (key c hc) q) (λc q=>(am (cS q hn))\q) λc xs q=>(am (cS q hn))\q
end
def DG (l:Mc) (items:Array Ma) (n:Nat) (dct:JK Mc) (sl:Array (JK Ma)) :
   Meets (Builtin.«enumerate.__new__» #[[.type "enumerate",↥l],[]]) (λ_ R s=>s.heap.get? l=some { cls:=.type "tuple",dict:=dct,data:=.seq items n,slots:=sl } /\
     R (.ok (.ret ↥(s.heap.push { cls:=.type "tuple_iterator",data:=.fields (List.toArray [↥l,.int 0 0]) }).objs.size))
       { s with heap:=(s.heap.push { cls:=.type "tuple_iterator",data:=.fields (List.toArray [↥l,.int 0 0]) }).push { cls:=.type "enumerate",data:=.fields (List.toArray [.none,.bool false,↥s.heap.objs.size,rawInt 0,.none,.none]) } }) :=
 .of_wp λprog w A R s h=>by
   let#[h0,g0,d0,t0,o0]:=s;let#[hl,h]:=h;have hsub:=sub_enumerate;have hL:Heap.IsTuple (Shared.heap ⟨h0,g0,d0,t0,o0⟩) l items:=#[_,hl,rfl,n,rfl]
   wp_walk using AutoSeq1.wpAny_loadPart' hl
   refine wpAny_stack_any λst=>JQ ?_;split
   . rename_i c _ _ _ _ _
     cases (c==Value.type "enumerate") <;> (wp_walk using AutoSeq1.wpAny_loadPart' hl,Kj hL; show#[5,h])
   . wp_walk using AutoSeq1.wpAny_loadPart' hl,Kj hL; show#[5,h]
def Ek {prog:Program} {A:Around} {E:Ma->Mb->Prop} {s:Mb} {l:Mc} {items:Array Ma} {Q:Ma->Mb->Prop} (hL:s.heap.IsTuple l items)
   (h:∀h',IsEnum h' (s.heap.objs.size+1) s.heap.objs.size 0 .none->h'.IsTupleIter s.heap.objs.size l 0->(∀b o,s.heap.get? b=⇑o->h'.get? b=⇑o)->Q ↥(s.heap.objs.size+1) { s with heap:=h' }) :
   wpAny 0x9 A (call (.type "enumerate") [↥l]) Q E s:=by
 obtain⟨⟨c,dct,dt,sl⟩,hl,hc,n,hd⟩:=hL;cases (show c=.type "tuple" from hc); cases (show dt=.seq items n from hd);refine callType_new F.called_enumerate #[] (F.typeCall_enumerate_1 _) (F.newCall_enumerate_1 _) (λobj=>F.args_object_init_2 obj _) F.entry_enumerate_new (DG l items n dct sl) #[hl,?_];have hz:(s.heap.push { cls:=.type "tuple_iterator",data:=.fields (List.toArray [↥l,.int 0 0]) }).objs.size=s.heap.objs.size+1:=Kd ..;have he:IsEnum ((s.heap.push { cls:=.type "tuple_iterator",data:=.fields (List.toArray [↥l,.int 0 0]) }).push { cls:=.type "enumerate",data:=.fields (List.toArray [.none,.bool false,↥s.heap.objs.size,rawInt 0,.none,.none]) }) (s.heap.objs.size+1) s.heap.objs.size 0 .none:=by have e:=Jb (s.heap.push { cls:=.type "tuple_iterator",data:=.fields (List.toArray [↥l,.int 0 0]) }) (o:={ cls:=.type "enumerate",data:=.fields (List.toArray [.none,.bool false,↥s.heap.objs.size,rawInt 0,.none,.none]) }) rfl;rw[hz] at e;exact e
 show _/\_;rw[hz];show#[#[_,he,rfl],h _ he #[_,JJ _ (Jb _ rfl),7] λb o x=>JJ _ (JJ _ x)]
abbrev kT (K:Md) (a:Mc):It :=
 #[λi H=>∃xs x,aD K H a xs/\xs[i]?=⇑x,λi H y H'=>∃b,y=↥b/\H b=none/\∀xs x,aD K H a xs->xs[i]?=⇑x->H'=upd H b (.tup [.int i,x]),λi H=>∃xs,aD K H a xs/\xs.length=i]
variable {elts:List Expr} {pos:Pos}
def DR {P:Program} {K:Md} {k:Nat} (a e it:Mc) (hne:e≠it):Turn P w K (.Tuple elts k pos) (kT K a) [e,it] e (λi h=>(∃old,IsEnum h e it i old)/\h.IsTupleIter it a i) where
 mem:=by simp
 obj:=λi h st b hb=>by
   obtain⟨⟨old,he⟩,⟨o,ho,hc,hd⟩⟩:=st;rcases JT.mp hb with z|z
   . subst z;show#[_,he,λv z=>by cases (show Data.fields _=Data.cell v from z)]
   . have z:b=it:=↑z
     subst z;show#[o,ho,λv z=>by rw[hd] at z; cases z]
 keep:=λi h h' st kk=>by obtain⟨⟨old,he⟩,⟨o,ho,r⟩⟩:=st;show#[#[old,kk e 0x6 _ he],#[o,kk it 0x6 o ho,r]]
 item:=by
   intro X hP hw hK hc i pins s σ H E I hf st hg;subst hP hw hK;obtain⟨⟨old,he⟩,hit⟩:=st;let#[xs,x,hq,hx]:=hg;let#[its,rv,p,hz]:=I.tuple hq;have pt:s.heap.IsTuple a its.toArray:=p;let#[u,hu,ru]:=rv.get hx;have hia:a≠it:=λz=>by
     subst z;let#[o1,h1,c1,_]:=hit;let#[o2,h2,c2,_]:=pt;rw[h1] at h2;cases h2;rw[c1] at c2;injection c2 with c2
     exact absurd c2 #[]
   have hea:e ∉ [it,a]:=λz=>by
     rcases JT.mp z with z|z
     . exact hne z
     . have z:e=a:=↑z
       subst z;let#[o2,h2,c2,_]:=pt;rw[he] at h2;cases h2;injection (show Value.type "enumerate"=Value.type "tuple" from c2) with c2
       exact absurd c2 #[]
   have hlt:i<its.toArray.size:=by have:=(JH.mp hu).1;simpa using this
   refine MM (tJ (A:=X.A.in1) (I.ok.hd hc) it a hia its.toArray) he #[hit,pt] hlt hne hea λy h' tk hy hout hst hT hsz hk=>?_;show#[5,M3 hout λh2 he2 hs2=>?_];have hs2:Heap.SameBut e h' h2:=hs2;have hyu:y=u:=by
     have hy:its.toArray[i]?=⇑y:=hy;have:its[i]?=⇑y:=↑hy
     rw[hu] at this;exact(Option.some.inj this).symm
   subst hyu;have helt:e<s.heap.objs.size:=JX he;have hfr:H s.heap.objs.size=none:=I.hok.fresh (JN _);have hnS:s.heap.objs.size≠e:=Ka helt;have hT2:h2.get? s.heap.objs.size=some { cls:=.type "tuple",data:=.seq (List.toArray [.int i tk,y]) }:=(hs2.2 _ hnS)\hT;show#[↥s.heap.objs.size,upd H s.heap.objs.size (.tup [.int i,x]),I.turnLaid (t':=tk+1) (ch:=[e,it]) (λb o hb q=>?_) hf (JN _) ?_,rfl,#[s.heap.objs.size,rfl,hfr,λxs' x' hq' hx'=>?_],#[#[y,by exact_mod_cast he2],?_],λb hb=>?_]
   . have h1:b≠e:=λz=>hb (by simp [z]);have h3:b≠it:=λz=>hb (by simp [z]);exact(hs2.2 b h1).trans (hk b o h1 h3 q)
   . show#[by show 2<=sizeLine; decide,[.int i tk,y],.cons #[tk,rfl] (.cons ru .nil),#[_,hT2,13]]
   . have:=I.tuple_inj hq' hq;subst this;rw[hx] at hx';cases hx';rfl
   . obtain⟨⟨o,ho,r⟩,_⟩:=hst;show#[o,(hs2.2 it hne.symm)\ho,r]
   . have hb0:=(hf b hb).1;rw[am]
     . exact hb0
     . intro z;subst z;let#[o,ho,_]:=hit;rcases JT.mp hb with z|z
       . exact hnS z
       . have z:s.heap.objs.size=it:=↑z
         exact absurd (JX ho) (by rw[<- z]; exact K2 _)
 done:=by
   intro X hP hw hK hc i pins s σ H E I hf st hg;subst hP hw hK;obtain⟨⟨old,he⟩,hit⟩:=st;let#[xs,hq,hx]:=hg;let#[its,rv,p,hz]:=I.tuple hq;have pt:s.heap.IsTuple a its.toArray:=p;have hl:=rv.length;have hia:a≠it:=λz=>by
     subst z;let#[o1,h1,c1,_]:=hit;let#[o2,h2,c2,_]:=pt;rw[h1] at h2;cases h2;rw[c1] at c2;injection c2 with c2
     exact absurd c2 #[]
   have hi:i=its.toArray.size:=by simp; lia
   refine wpAny_pyNext_enum_endD (tJ (A:=X.A.in1) (I.ok.hd hc) it a hia its.toArray) he (by rw[<- hi]; show#[hit,pt]) λh' eb=>#[rfl,?_]
   exact I.turnedL (t':=s.toks) (ch:=[e,it]) (λb o hb q=>eb b o (λz=>hb (by simp [z])) q) hf
 self:=λ_ _ _ _ _ st h=>by obtain⟨⟨old,he⟩,_⟩:=st;exact LN he h
variable {tb:TS} {σ:St} {H:Hp}
section
variable {X:Cx}
def uU:bootBuiltins "enumerate"=⇑(.type "enumerate"):=Gy
abbrev Ai (K:Md) (ta:TA):TI:=λσ H R=>ta σ H λvs H1=>∃a,vs=[↥a]/\(∃xs,aD K H1 a xs)/\R (kT K a) H1
def wz {a:Expr} {ta:TA} {p tpos:Pos}{k:Nat} (hg:Gl X "enumerate") (hm:X.mg "enumerate"=none) (ha:PA X [a] ta) (hs:starEach [a] X.env=[(false,eval a X.env)]:=by rfl):PI X (.Tuple elts k tpos) (.Call (.Name "enumerate" p) [a] [] pos) (Ai X.K ta):=by
 intro pins s σ H R I h;refine Call_ (fY I hg hm uU (Jv (al (ha pos pins s σ H _ I h) λus s1 z139_=>?_) hs rfl));let#[vs,H1,I1,r1,q1]:=z139_;obtain⟨a,e,⟨xs,hq⟩,q⟩:=q1;subst e;cases r1 with
 | cons r rr =>
   cases rr;cases r;let#[its,rv,p,hz]:=I1.tuple hq;refine Ek (show s1.heap.IsTuple a its.toArray from p) λh' he hit hk=>?_;refine LN he ?_;show#[s1.heap.objs.size+1,[s1.heap.objs.size+1,s1.heap.objs.size],4,H1,rfl,I1.kept (t':=s1.toks) hk,DR a (s1.heap.objs.size+1) s1.heap.objs.size (Nat.succ_ne_self _),#[#[.none,he],hit],λb hb=>?_,q];rcases JT.mp hb with z|z
   . subst z;exact I1.fpOk (LQ _) (I1.hok.fresh (LQ _))
   . have z:b=s1.heap.objs.size:=↑z
     subst z;exact I1.fpOk (JN _) (I1.hok.fresh (JN _))
def vR {K:Md} {a:Mc} {xs:List V} {g:TG} {D:cU} (Pv:Nat->St->Hp->Prop) (h0:Pv 0 σ H) (hl:∀i σ H,i<=xs.length->Pv i σ H->aD K H a xs)
   (hs:∀i x σ H b,xs[i]?=⇑x->Pv i σ H->H b=none->g ↥b σ (upd H b (.tup [.int i,x])) λσ2 H2=>tb { D with nx:=Pv (i+1),ct:=Pv (i+1),bk:=D.nx } σ2 H2) (hd:∀σ H,Pv xs.length σ H->D.nx σ H) :
   ∃W:Nat->Nat->St->Hp->Prop,(∃m,W 0 m σ H)/\∀i m σ H,W i m σ H->((kT K a).stop i H/\D.nx σ H)\/((kT K a).go i H/\∃N:St->Hp->Prop,(∀σ' H',N σ' H'->∃m',m'<m/\W (i+1) m' σ' H')/\∀x H',(kT K a).yld i H x H'->g x σ H' λσ2 H2=>tb { D with nx:=N,ct:=N,bk:=D.nx } σ2 H2):=by
 show#[λi m σ H=>m=xs.length - i/\i<=xs.length/\Pv i σ H,#[xs.length,by simp,Jm _,h0],?_];rintro i m σ H ⟨rfl,hi,p⟩;have q:=hl i σ H hi p;by_cases hlt:i<xs.length
 . refine .inr #[#[xs,xs[i],q,by simp [hlt]],Pv (i+1),λσ' H' p'=>#[xs.length - (i+1),∅,rfl,hlt,p'],λx H' y=>?_];let#[b,rfl,hb,y]:=y;rw[y xs xs[i] q (by simp [hlt])];exact hs i xs[i] σ H b (by simp [hlt]) p hb
 . have e:i=xs.length:=by lia
   subst e;exact .inl #[#[xs,q,rfl],hd σ H p]
end
section
variable {X:Cx} {pins:List (Mc×Obj)} {σ:St} {H:Hp} {s:Mb}
def Inv.freeze {d:Mc} {kvs:List (aI×V)} (I:Inv X pins σ H s) (e:H d=⇑(.dK kvs)):∃o,s.heap.get? d=⇑o/\Inv X pins σ (upd H d (.frz o (.dK kvs))) s:=by
 obtain⟨z,hd,vs,rel,⟨o,es,ep,ho,r⟩⟩:=I.hok d _ e;show#[o,ho,?_];have nd:∀b u,H b=⇑u->u≠.dK kvs->b≠d:=λb u q n z=>by subst z;rw[e] at q;cases q;exact n rfl
 refine I.step (g':=s.gens) (t':=s.toks) (d':=s.drawn) (h':=s.heap) (ch:=[]) (λ_ z=>nomatch z) (λb o _ _ _ q _=>q) (λb o _ _ _ q _=>#[o.slots,q]) (λb o _ _ n=>?_) (λb o _ q=>#[o,q]) (λb xs q=>?_) (λb o u q=>?_) (λb ps q=>#[0xA,?_]) (λm hm=>hm) (λb u q=>?_) I.bare
 . rw[am (λz=>by subst z; rw[e] at n; cases n)];exact n
 . rw[am (nd b _ q 0xB)];exact q
 . rw[am (nd b _ q 0xB)];exact q
 . rw[am (nd b _ q 0xB),q];simp
 . have own:∀c b,H c=⇑(.own b)->(upd H d (.frz o (.dK kvs))) c=⇑(.own b):=λc b q=>(am (nd c _ q 0xB))\q;have tup:∀c xs,H c=⇑(.tup xs)->(upd H d (.frz o (.dK kvs))) c=⇑(.tup xs):=λc xs q=>(am (nd c _ q 0xB))\q;by_cases hb:b=d
   . subst hb;rw[aG] at q;cases q;show#[ho,(I.hok _ _ e).stay (λ_ _ _ q=>q) (λc q=>own c _ q) tup]
   . rw[am hb] at q;exact(I.hok b u q).stay (λ_ _ _ q=>q) (λc q=>own c _ q) tup
end
def Cr:entryFor table "dict_itemiterator.__iter__"=⇑Builtin.«dict_keyiterator.__iter__»:=entryFor_alias (id':="dict_keyiterator.__iter__") (by kernel_rfl) (by first|rfl|decide +kernel|(unfold String.splitOn; simp +decide [String.splitOnAux])) 0x3 (by kernel_rfl)
abbrev gZ (o:Obj) (d:Mc) (kvs:List (aI×V)):It :=
 #[λi H=>H d=⇑(.frz o (.dK kvs))/\i<kvs.length,λi H y H'=>∃b,y=↥b/\H b=none/\∀kv,kvs[i]?=⇑kv->H'=upd H b (.tup [kV kv.1,kv.2]),λi H=>H d=⇑(.frz o (.dK kvs))/\i=kvs.length]
def rB {X:Cx} {pins:List (Mc×Obj)} {s:Mb} {o:Obj} {d:Mc} {kvs:List (aI×V)} (I:Inv X pins σ H s) (e:H d=⇑(.frz o (.dK kvs))) {es0:Array DictEntry} {ep:Nat} (hep:o.data=.dict es0 ep) :
   ∃vs,KV kvs vs/\s.heap.DictAt (cN X.prog X.w) d vs ep:=by
 obtain⟨h1,z,hd,vs,rel,⟨o',es,ep',ho,hx,hdat,r⟩⟩:=I.hok d _ e;rw[h1] at ho;cases ho;rw[hep] at hdat;cases hdat;show#[vs,rel,o,es0,h1,hx,hep,r]
def Hm {P:Program} {K:Md} {k:Nat} (o:Obj) (d it:Mc) (kvs:List (aI×V)) (es0:Array DictEntry) (ep:Nat) (hep:o.data=.dict es0 ep) :
   Turn P w K (.Tuple elts k pos) (gZ o d kvs) [it] it (λi h=>∃ok ov,IsItemIter h it d i kvs.length ep ok ov) where
 mem:=by simp
 obj:=λi h st b hb=>by
   let#[ok,ov,he]:=st;have z:b=it:=↑hb
   subst z;show#[_,he,λv z=>by cases (show Data.fields _=Data.cell v from z)]
 keep:=λi h h' st kk=>by let#[ok,ov,he]:=st;show#[ok,ov,kk it 0x6 _ he]
 item:=by
   intro X hP hw hK hc i pins s σ H E I hf st hg;subst hP hw hK;let#[ok,ov,he]:=st;let#[hfz,hi]:=hg;let#[vs,rel,hD]:=rB I hfz hep;have hlen:kvs.length=vs.length:=KV.length rel;have hi':i<vs.length:=by lia
   have rk:kvs[i].1=vs[i].1/\bC kvs[i].2 vs[i].2:=qY rel hi hi';refine wpAny_pyNext_items_item (knd:=cN X.prog X.w) (k:=vs[i].1) (v:=vs[i].2) (kvs:=vs) (by rw[<- hlen]; exact he) hD (by simp [hi']) λkey h' hkey hout hT hsz hk=>?_;show#[5,wpAny_letOwnedTupleGo_items hout λh2 he2 hs2=>?_];have hs2:Heap.SameBut it h' h2:=hs2;have hilt:it<s.heap.objs.size:=JX he;have hnS:s.heap.objs.size≠it:=Ka hilt;have hfr:H s.heap.objs.size=none:=I.hok.fresh (JN _);have hT2:h2.get? s.heap.objs.size=some { cls:=.type "tuple",data:=.seq (List.toArray [key,vs[i].2]) }:=(hs2.2 _ hnS)\hT;show#[↥s.heap.objs.size,upd H s.heap.objs.size (.tup [kV kvs[i].1,kvs[i].2]),I.turnLaid (t':=s.toks) (ch:=[it]) (λb o hb q=>?_) hf (JN _) ?_,rfl,#[s.heap.objs.size,rfl,hfr,λkv hkv=>?_],#[4,by rw[hlen]; exact he2],λb hb=>?_]
   . have h1:b≠it:=λz=>hb (by simp [z]);exact(hs2.2 b h1).trans (hk b o h1 q)
   . show#[by show 2<=sizeLine; decide,[key,vs[i].2],.cons (by rw[rk.1]; exact uY hkey) (.cons rk.2 .nil),#[_,hT2,13]]
   . have:kvs[i]=kv:=by simpa [hi] using hkv
     rw[<- this]
   . have z:b=it:=↑hb
     subst z;rw[am hnS.symm];exact(hf _ hb).1
 done:=by
   intro X hP hw hK hc i pins s σ H E I hf st hg;subst hP hw hK;let#[ok,ov,he]:=st;let#[hfz,hi]:=hg;let#[vs,rel,hD]:=rB I hfz hep;have hlen:kvs.length=vs.length:=KV.length rel;refine wpAny_pyNext_items_end (knd:=cN X.prog X.w) (kvs:=vs) (I.ok.hd hc) (by rw[<- hlen]; exact he) hD (by simp; lia) λh' eb=>#[rfl,?_]
   exact I.turnedL (t':=s.toks) (ch:=[it]) (λb o hb q=>eb b o (λz=>hb (by simp [z])) q) hf
 self:=λA i s Q E st h=>by
   let#[ok,ov,he]:=st;have hT:s.TypeIs ↥it "dict_itemiterator":=#[_,he,rfl]
   exact wpAny_pyIter_slot hT Lo (KJ Lo hT Cr (show wpAny _ _ (ret ↥it) _ _ s from JQ #[5,"dict_itemiterator",_,hT,F.slot_dict_itemiterator_next.lookup,h]) (F.args_dict_itemiterator_iter_1 _))
section
variable {X:Cx}
abbrev GY (td:TE):TI:=λσ H R=>td σ H λx H1=>∃d kvs,x=↥d/\((H1 d=⇑(.dK kvs)/\∀o,R (gZ o d kvs) (upd H1 d (.frz o (.dK kvs))))\/∃o,H1 d=⇑(.frz o (.dK kvs))/\R (gZ o d kvs) H1)
def pO {l:Expr} {td:TE} {apos cpos tpos:Pos} {k:Nat} (hl:PE X l td) (hbase:attributeBase l "items" X.env (eval l X.env)=eval l X.env:=by rfl) (hline:(apos.endLine==cpos.line)=true:=by rfl) :
   PI X (.Tuple elts k tpos) (.Call (.Attribute l "items" apos) [] [] cpos) (GY td):=by
 intro pins s σ H R I h;refine MI hbase hline (al (hl pins s σ H _ I h) λv s1 z140_=>?_);let#[x,H1,I1,r1,q1]:=z140_;let#[d,kvs,rfl,q1]:=q1;cases r1;have key:∃o H2,Inv X pins σ H2 s1/\H2 d=⇑(.frz o (.dK kvs))/\R (gZ o d kvs) H2:=by
   rcases q1 with⟨e,q⟩|⟨o,e,q⟩
   . let#[o,ho,I2]:=I1.freeze e;show#[o,_,I2,aG,q o]
   . show#[o,H1,I1,e,q]
 let#[o,H2,I2,e2,q]:=key;let#[ho,z,hd,vs,rel,dd]:=I2.hok d _ e2;let#[o',es,ep,ho',hx,hdat,r]:=id dd;rw[ho] at ho';cases ho';show#["dict","dict.items",MK,MN,PySem.F.type_dict_items,dd.typeIs,λb q=>?_,Calls.callWith_builtin rfl (PySem.evalArgs_none ?_)]
 . cases q;show#[o,ho,hx.2.1]
 refine call_meetsIn MN dd.typeIs PySem.F.entry_dict_items (PySem.F.args_dict_items_1 _) (meets_dict_items (cN X.prog X.w) d hd) #[#[vs,dd],?_];have I3:Inv X pins σ H2 { s1 with heap:=s1.heap.push { cls:=.type "dict_items",data:=.fields (List.toArray [↥d]) } }:=I2.kept (t':=s1.toks) λb o e=>JJ _ e;let#[vs3,rel3,hD3]:=rB I3 e2 hdat;refine wpAny_pyIter_items (knd:=cN X.prog X.w) (kvs:=vs3) (ep:=ep) #[_,Jb _ rfl,7] hD3 ?_;have hlen:kvs.length=vs3.length:=KV.length rel3;rw[<- hlen];generalize hh3:s1.heap.push { cls:=.type "dict_items",data:=.fields (List.toArray [↥d]) }=h3 at I3 ⊢;show#[h3.objs.size,[h3.objs.size],4,H2,rfl,I3.kept (t':=s1.toks) λb o e=>JJ _ e,Hm o d h3.objs.size kvs es ep hdat,#[4,Jb _ rfl],λb hb=>?_,q];have z:b=h3.objs.size:=↑hb
 subst z;exact I3.fpOk (JN _) (I3.hok.fresh (JN _))
def qu {o:Obj} {d:Mc} {kvs:List (aI×V)} {g:TG} {D:cU} (Pv:Nat->St->Hp->Prop) (h0:Pv 0 σ H) (hl:∀i σ H,i<=kvs.length->Pv i σ H->H d=⇑(.frz o (.dK kvs)))
   (hs:∀i kv σ H b,kvs[i]?=⇑kv->Pv i σ H->H b=none->g ↥b σ (upd H b (.tup [kV kv.1,kv.2])) λσ2 H2=>tb { D with nx:=Pv (i+1),ct:=Pv (i+1),bk:=D.nx } σ2 H2) (hd:∀σ H,Pv kvs.length σ H->D.nx σ H) :
   ∃W:Nat->Nat->St->Hp->Prop,(∃m,W 0 m σ H)/\∀i m σ H,W i m σ H->((gZ o d kvs).stop i H/\D.nx σ H)\/((gZ o d kvs).go i H/\∃N:St->Hp->Prop,(∀σ' H',N σ' H'->∃m',m'<m/\W (i+1) m' σ' H')/\∀x H',(gZ o d kvs).yld i H x H'->g x σ H' λσ2 H2=>tb { D with nx:=N,ct:=N,bk:=D.nx } σ2 H2):=by
 show#[λi m σ H=>m=kvs.length - i/\i<=kvs.length/\Pv i σ H,#[kvs.length,by simp,Jm _,h0],?_];rintro i m σ H ⟨rfl,hi,p⟩;have q:=hl i σ H hi p;by_cases hlt:i<kvs.length
 . refine .inr #[#[q,hlt],Pv (i+1),λσ' H' p'=>#[kvs.length - (i+1),∅,rfl,hlt,p'],λx H' y=>?_];let#[b,rfl,hb,y]:=y;rw[y kvs[i] (by simp [hlt])];exact hs i kvs[i] σ H b (by simp [hlt]) p hb
 . have e:i=kvs.length:=by lia
   subst e;exact .inl #[#[q,rfl],hd σ H p]
end
abbrev li (hi:Int) (n:Nat):It:=#[λi _=>i<n,λi H x H'=>H'=H/\x=.int (hi - i),λi _=>n<=i]
def C' {P:Program} {K:Md} {tg:Expr} (it:Mc) (hi:Int) (n:Nat):Turn P w K tg (li hi n) [it] it (λi h=>IsRangeIter h it (hi+(i:Nat) * (-1)) ((n:Int) - (i:Nat)) (-1)) where
 mem:=by simp
 obj:=λi h st b hb=>by
   have e:b=it:=↑hb
   subst e;show#[_,st,λv z=>by cases (show Data.fields _=Data.cell v from z)]
 keep:=λi h h' st k=>k it 0x6 _ st
 item:=by
   intro X hP hw hK hc i pins s σ H E I hf st hg;subst hP hw hK;refine(Walks.range (prog:=X.prog) (w:=X.w) (I.ok.hd hc) it hi (-1) n).item i s _ _ hg st λv h' tk hv st' kk=>?_;let#[t,rfl]:=hv;have I1:Inv X pins σ H { s with heap:=h',toks:=tk }:=I.turnedL (ch:=[it]) (λb o hb e=>kk b o hb e) hf;have e:hi+(i:Int) * (-1)=hi - (i:Int):=by lia
   show#[5,ni (s:={ s with heap:=h',toks:=tk }) (n:="range_iterator") st' rfl rfl #[] #[.int (hi - i),H,I1,#[t,by rw[e]],#[7],st',λb hb=>(hf b hb).1]]
 done:=by intro X hP hw hK hc i pins s σ H E I hf st hg;subst hP hw hK;exact wpAny_pyNext_range_end (I.ok.hd hc) st (by have:n<=i:=hg; lia) λh' eb=>#[rfl,I.turnedL (t':=s.toks) (ch:=[it]) (λb o hb e=>eb b o (λz=>hb (by simp [z])) e) hf]
 self:=λ_ _ _ _ _ st h=>wpAny_pyIter_rangeiter st h
def vb (a b:Int):Builtin.Range.rangeSize a b (-1)=if b<a then a - b else 0:=by
 unfold Builtin.Range.rangeSize;rw[JI #[]];have:(-(-1):Int)=1:=by decide
 rw[this];rw[Int.ediv_one];by_cases h:b<a
 . rw[JR h,JR h]; lia
 . rw[JI h,JI h]
def Ab {a b:Int} (ha:-(2 ^ 60)<=a) (ha':a<2 ^ 60) (hb:-(2 ^ 60)<=b) (hb':b<2 ^ 60):Builtin.Range.small a b (-1)=true:=by
 unfold Builtin.Range.small;rw[vb];simp only[Builtin.Range.rangeFitsLong,Jl,Bool.or_eq_true,K1,M8,show ¬ ((-1:Int) > 0) by decide,if_false];by_cases h:b<a
 . simp only[JR h]; lia
 . simp only[JI h]; lia
section
variable {X:Cx} {tg:Expr}
abbrev GF (ta:TA):TI:=λσ H R=>ta σ H λvs H1=>∃i j:Int,vs=[.int i,.int j,.int (-1)]/\(-(2 ^ 60)<=i/\i<2 ^ 60/\-(2 ^ 60)<=j/\j<2 ^ 60)/\R (li i (i - j).toNat) H1
def F6 {a b c:Expr} {ta:TA} {p:Pos}(hg:Gl X "range") (hm:X.mg "range"=none) (ha:PA X [a,b,c] ta) (hs:starEach [a,b,c] X.env=(false,eval a X.env)::starEach [b,c] X.env:=by rfl) (hs2:(backTo pos (starEach [b,c] X.env)).any (·.1)=false:=by rfl) :
   PI X tg (.Call (.Name "range" p) [a,b,c] [] pos) (GF ta):=by
 intro pins s σ H R I h;refine Call_ (fY I hg hm boot_range (Jv (al (ha pos pins s σ H _ I h) λus s1 z144_=>?_) hs hs2));let#[vs,H1,I1,r1,q1]:=z144_;obtain⟨i,j,e,⟨q1,q2,q3,q4⟩,q⟩:=q1;subst e;cases r1 with
 | cons r rr =>
   cases rr with
   | cons r' rr =>
     cases rr with
     | cons r'' rr =>
       cases rr;let#[t,rfl]:=r;let#[t',rfl]:=r';let#[t'',rfl]:=r'';refine call_range_3 #[] ?_ (.inl (PyProof.noPylong_small ∅));refine wpAny_pyIter_range (IsRange.new ..) (Ab q1 q2 q3 q4) ?_;have I2:Inv X pins σ H1 { s1 with heap:=s1.heap.push { cls:=.type "range",data:=.fields (List.toArray [.int i t,.int j t',.int (-1) t'']) },toks:=s1.toks }:=I1.kept λb o e=>JJ _ e;show#[_,[(s1.heap.push { cls:=.type "range",data:=.fields (List.toArray [.int i t,.int j t',.int (-1) t'']) }).objs.size],4,H1,rfl,I2.kept (t':=s1.toks) λb o e=>JJ _ e,C' _ i (i - j).toNat,?_,λb hb=>?_,q]
       . have e1:i+((0:Nat):Int) * (-1)=i:=by lia
         have e2:(((i - j).toNat:Nat):Int) - ((0:Nat):Int)=Builtin.Range.rangeSize i j (-1):=by rw[vb]; split <;> lia
         show IsRangeIter _ _ (i+((0:Nat):Int) * (-1)) ((((i - j).toNat:Nat):Int) - ((0:Nat):Int)) (-1);rw[e1,e2];exact Jb _ rfl
       . have e:b=(s1.heap.push { cls:=.type "range",data:=.fields (List.toArray [.int i t,.int j t',.int (-1) t'']) }).objs.size:=↑hb
         subst e;exact I2.fpOk (JN _) (I2.hok.fresh (JN _))
def Iy {hi:Int} {n:Nat} {g:TG} {D:cU} (Pv:Nat->St->Hp->Prop) (h0:Pv 0 σ H) (hs:∀i σ H,i<n->Pv i σ H->g (.int (hi - i)) σ H λσ2 H2=>tb { D with nx:=Pv (i+1),ct:=Pv (i+1),bk:=D.nx } σ2 H2) (hd:∀σ H,Pv n σ H->D.nx σ H) :
   ∃W:Nat->Nat->St->Hp->Prop,(∃m,W 0 m σ H)/\∀i m σ H,W i m σ H->((li hi n).stop i H/\D.nx σ H)\/((li hi n).go i H/\∃N:St->Hp->Prop,(∀σ' H',N σ' H'->∃m',m'<m/\W (i+1) m' σ' H')/\∀x H',(li hi n).yld i H x H'->g x σ H' λσ2 H2=>tb { D with nx:=N,ct:=N,bk:=D.nx } σ2 H2):=by
 show#[λi m σ H=>m=n - i/\i<=n/\Pv i σ H,#[n,by simp,Jm _,h0],?_];rintro i m σ H ⟨rfl,hi',p⟩;by_cases hlt:i<n
 . refine .inr #[hlt,Pv (i+1),λσ' H' p'=>#[n - (i+1),∅,rfl,hlt,p'],λx H' y=>?_];let#[e,y]:=y;subst e y;exact hs i σ _ hlt p
 . have e:i=n:=by lia
   subst e;exact .inl #[JN _,hd σ H p]
end
abbrev vz (K:Md):R2:=λx y H Q=>∃a b ys,x=↥a/\y=↥b/\aD K H a []/\aD K H b ys/\Q ↥b H
def BA {X:Cx}:bU X (binaryOp .Add) (vz X.K):=by
 intro pins s σ H x y v u Q I rx ry h;let#[a,b,ys,rfl,rfl,ha,hb,q]:=h;cases rx;cases ry;let#[its,r1,p1,_]:=I.tuple ha;let#[its2,r2,p2,_]:=I.tuple hb;obtain⟨⟨cls,dd,data,sl⟩,ho,hc,n,hd⟩:=id p1;obtain⟨⟨cls2,dd2,data2,sl2⟩,ho2,hc2,n2,hd2⟩:=id p2;simp only at hc hd hc2 hd2;subst hc hd hc2 hd2;exact concat_meets #[_,ho,rfl] #[_,ho2,rfl] noFill_tuple_add seq_tuple_add LR LK (LG _ _)
   (tuple_addW0 a b its.toArray its2.toArray n n2 dd dd2 sl sl2 (by simp [r1.nil_iff.mpr rfl])) #[ho,ho2,#[↥b,H,I,rfl,q]]
def Ax {X:Cx} {st:Stmt} {rest:List Stmt} {t u:TS} (h1:PS X st t) (h2:aY X rest u):aY X (st::rest) (λD σ H=>∃M:St->Hp->Prop,t { D with nx:=M } σ H/\∀σ' H',M σ' H'->u D σ' H'):=by
 intro pins s σ H D I h;let#[M,h,hm]:=h;refine MA (al (h1 pins s σ H { D with nx:=M } I h) λf s1 q=>?_);cases f with
 | next =>
   let#[σ',H',I',q]:=q;exact h2 pins s1 σ' H' D I' (hm _ _ q)
 | ret v=>exact q
 | brk=>exact q
 | cont=>exact q
end L2
namespace L2
open PySem PySem.Spec PyProof.Rows PySem.W
def Paired.len {α β:Type} {R:α->β->Prop}:∀{xs:List α} {ys:List β},Paired R xs ys->xs.length=ys.length
 := by
 intro xs ys h
 induction h with
 | nil=>rfl
 | cons _ r ih=>rw[Jo,Jo,ih]
abbrev C2:List V->Hp->VK->Prop:=λxs H Q=>∃a kvs,xs=[↥a]/\H a=⇑(.dK kvs)/\∀d,H d=none->Q ↥d (upd H d (.dK kvs))
def IF {X:Cx}:bX X (.type "dict") C2:=by intro pins s σ H xs us Q I r h;let#[a,kvs,rfl,hH,q]:=h;let#[u,rfl,ru]:=i9 r;cases (show u=Value.ref a from ru);let#[z,ha,vs,rel,da]:=I.hok a _ hH;refine kt_call_dict ha da (by rw[<- Paired.len rel]; exact z) λh' hm hs=>?_;have hk:∀b u,s.heap.get? b=⇑u->h'.get? b=⇑u:=λb u e=>hs.extBut b u (Js (JX e)) (JJ _ e);show#[↥s.heap.objs.size,_,I.laid (a:=s.heap.objs.size) (o:=.dK kvs) (t':=s.toks) hk (JN _) #[z,beq_eq_false_iff_ne.mpr (Ne.symm (Js I.big)),vs,rel,hm],rfl,q _ (I.hok.fresh (JN _))]
end L2
namespace L2
open PySem PySem.Spec PyProof.Rows
abbrev BY (K:Md):R2:=λx y H Q=>∃a b xs,x=↥a/\y=↥b/\aE K H a xs/\aE K H b []/\Q (.bl (decide (xs=[]))) H
def Gq {X:Cx} (hu:X.A.units+64<cLine):bU X (compareOp .Eq) (BY X.K):=by
 intro pins s σ H x y v u Q I rx ry h;let#[a,b,xs,rfl,rfl,hA,hB,q]:=h;cases rx;cases ry;let#[its,r1,p1,_]:=I.list hA;let#[its2,r2,p2,_]:=I.list hB;have e2:its2=[]:=r2.nil_iff.mpr rfl;subst e2;by_cases hx:xs=[]
 . have e1:its=[]:=r1.nil_iff.mpr hx;subst e1;refine SeqAt.eq_listAt (e:=λ_=>true) p1.isList p2.isList rfl ∅ (λi h=>absurd h (K9 i)) ?_;rw[JG hx] at q;show#[.bl true,H,I,rfl,q]
 . have hne:(its.toArray.size != ([]:List Ma).toArray.size)=true:=by
     have:its≠[]:=λz=>hx (r1.nil_iff.mp z);cases its with
     | nil=>exact absurd rfl this
     | cons a b=>rfl
   refine SeqAt.eq_list_lengthsAt p1.isList p2.isList hne ∅ ?_;rw[JP hx] at q;show#[.bl false,H,I,rfl,q]
abbrev ax (n:Nat) (d:PyData):Prop:=PyData.canLay0 d=true/\PyData.depth d<=n
variable {n:Nat}
def ax.int (i:Int):ax n (.int i):=#[by unfold PyData.canLay0; rfl,by unfold PyData.depth; exact Jm _]
def ax.bool (b:Bool):ax n (.bool b):=#[by unfold PyData.canLay0; rfl,by unfold PyData.depth; exact Jm _]
def ax.none :ax n .none:=#[by unfold PyData.canLay0; rfl,by unfold PyData.depth; exact Jm _]
def ax.str {x:Str} (h:PyData.strOk x=true):ax n (.str x):=#[by unfold PyData.canLay0; exact h,by unfold PyData.depth; exact Jm _]
def qj {n:Nat}:∀{ds:List PyData},(∀d∈ds,ax n d)->PyData.canLayAll0 ds=true/\PyData.depthAll ds<=n
 | [],_=>#[by unfold PyData.canLayAll0; rfl,by unfold PyData.depthAll; exact Jm _]
 | d::ds,h=>by
   have h1:=h d JZ;have h2:=qj (λx hx=>h x (JY _ hx));constructor
   . unfold PyData.canLayAll0; rw[h1.1,h2.1]; rfl
   . unfold PyData.depthAll; exact Nat.max_le.mpr #[h1.2,h2.2]
def ax.list {ds:List PyData} (h:∀d∈ds,ax n d):ax (n+1) (.list ds):=by have h2:=qj h;show#[by unfold PyData.canLay0; exact h2.1,by unfold PyData.depth; have:=h2.2; lia]
def ax.tuple {ds:List PyData} (h:∀d∈ds,ax n d):ax (n+1) (.tuple ds):=by have h2:=qj h;show#[by unfold PyData.canLay0; exact h2.1,by unfold PyData.depth; have:=h2.2; lia]
def ax.shaped {n:Nat} {d:PyData} (h:ax n d) (hn:n<=64):SeqAt.shaped d=true:=by unfold SeqAt.shaped;rw[h.1,JG (Jj h.2 hn)];rfl
def ax.refl {d:PyData} (h:ax n d):PyData.eqv d d=true:=SeqAt.eqv_refl d h.1
def ax.mono {m:Nat}{d:PyData} (h:ax n d) (hn:n<=m):ax m d:=#[h.1,Jj h.2 hn]
variable {H:Hp}
def Ig {K:Md} {x y:V} {Q:VK} {d:PyData} (hn:n<=64) (l:ax n d) (hx:au K H d x) (hy:au K H d y) (q:Q (.bl true) H):jU K x y H Q :=
 #[d,d,hx,hy,l.shaped hn,l.shaped hn,by rw[l.refl]; exact q]
mutual
theorem au.mono {K:Md} {H H':Hp} (e:aA H H'):∀(d:PyData) (v:V),au K H d v->au K H' d v
 | .none,v,h=>by unfold au at h ⊢; exact h
 | .bool b,v,h=>by unfold au at h ⊢; exact h
 | .int i,v,h=>by unfold au at h ⊢; exact h
 | .str x,v,h=>by unfold au at h ⊢; exact h
 | .list ds,v,h=>by unfold au at h ⊢;let#[a,xs,rfl,hq,hd]:=h;show#[a,xs,rfl,e.seq hq,bF.mono e ds xs hd]
 | .tuple ds,v,h=>by unfold au at h ⊢;let#[a,xs,rfl,hq,hd]:=h;show#[a,xs,rfl,e<*hq,bF.mono e ds xs hd]
 | .dict _,v,h=>by unfold au at h; exact h.elim
theorem bF.mono {K:Md} {H H':Hp} (e:aA H H'):∀(ds:List PyData) (xs:List V),bF K H ds xs->bF K H' ds xs
 | [],xs,h=>by unfold bF at h ⊢; exact h
 | d::ds,xs,h=>by unfold bF at h ⊢;let#[x,r,rfl,hd,hds]:=h;show#[x,r,rfl,au.mono e d x hd,bF.mono e ds r hds]
end
abbrev ers (l:Mc) (H:Hp):Hp:=λb=>if b=l then none else H b
def bW {l b:Mc} (h:b≠l):ers l H b=H b:=by unfold ers; rw[JI h]
def cZ {l:Mc} :aA (ers l H) H:=λb o h=>by
 unfold ers at h;split at h
 . cases h
 . exact h
def fH {l:Mc} {o:HO}:ers l (upd H l o)=ers l H:=by funext b;unfold ers upd;split <;> rfl
def aA.ers {l:Mc} {H H':Hp} (e:aA H H'):aA (ers l H) (ers l H'):=λb o h=>by
 unfold L2.ers at h ⊢;split at h
 . cases h
 . rename_i hb
   rw[JI hb];exact e b o h
section
variable {g:TG} {tif:TT} {te:TE} {js:List (JK Nat)} {σ:St} {H:Hp} {Q:VK}
def Ho {lo:Int} {p:Mc} (f:Nat->V) (hn:n<=1000000) (hp:H p=none)
   (hs:∀i H2 (R:VK),i<n->aA H H2->R (f i) H2->g (.int (lo+i)) (cH js σ) H2 λσ2 H3=>tif σ2 H3 λc H4=>if c=true then te σ2 H4 R else False)
   (hd:∀H2,aA H H2->H2 p=⇑(.lst ((List.range n).map f))->Q ↥p H2) (mono:∀x H2 (M M':St->Hp->Prop),(∀σ' H',M σ' H'->M' σ' H')->g x (cH js σ) H2 M->g x (cH js σ) H2 M':=by intro _ _ _ _ h z; exact h _ _ z) (mon2:∀σ2 H2 (M M':Bool->Hp->Prop),(∀c H',M c H'->M' c H')->tif σ2 H2 M->tif σ2 H2 M':=by intro _ _ _ _ h z; exact h _ _ z) :
   i5 (gh lo n) g tif te js σ Q p H:=by
 refine oz hn (λi acc H2=>aA H H2/\H2 p=⇑(.lst acc)/\acc=(List.range i).map f) #[aA.new hp,aG,rfl] ?_ ?_ ?_
 . rintro i acc H2 hi ⟨s2,e2,rfl⟩;show#[e2,by rw[JE,Kx]; exact JN _]
 . rintro i acc H2 hi ⟨s2,e2,rfl⟩;refine mono _ _ _ _ (λσ' H' z=>?_) (hs i H2 (λy H5=>H5 p=⇑(.lst ((List.range i).map f))/\(aA H (upd H5 p (.lst ((List.range i).map f++[y])))/\upd H5 p (.lst ((List.range i).map f++[y])) p=⇑(.lst ((List.range i).map f++[y]))/\(List.range i).map f++[y]=(List.range (i+1)).map f)) hi s2 #[e2,s2.upd hp,aG,?_])
   . refine mon2 _ _ _ _ (λc H'' zz=>?_) z;cases c with
     | true=>exact zz
     | false=>exact zz.elim
   . rw[List.range_succ,JL];rfl
 . rintro acc H2 ⟨s2,e2,rfl⟩;exact hd H2 s2 e2
end
end L2
namespace Gx
open PySem L2
def fA:0<=sizeLine:=by decide
def cB:1<=sizeLine:=by decide
def aZ:2<=sizeLine:=by decide
def cn:3<=sizeLine:=by decide
def fF:4<=sizeLine:=by decide
def le6:6<=sizeLine:=by decide
def bt {n:Nat} (h:n<1000000):n<=sizeLine:=by
 have:(1000000:Nat)<sizeLine:=by decide
 lia
def at0 {x:V} {r:List V}:ay (x::r) 0=⇑x:=by unfold ay cT;rw[JR #[],JR 0x6];rfl
def ij (z n:Int) (h:0<n):0<=z%n/\z%n<n:=#[L5 _ ∅,Kr _ h]
def E8 {α:Type} {es:List α} {f:α->V} {i:Nat} {x:V} (h:(es.map f)[i]?=⇑x):∃e,es[i]?=⇑e/\e∈es/\x=f e:=by
 rw[JS] at h;cases he:es[i]? with
 | none=>rw[he] at h; cases h
 | some e=>rw[he] at h; cases h; show#[e,rfl,JM he,rfl]
end Gx
namespace L2
open PySem PySem.Spec PyProof.Rows
abbrev Gz (K:Md) (ta:TE):TT:=λσ H Q=>ta σ H λx H'=>∃k,qb K x H' k/\Q k H'
def xL {X:Cx} {K:Md} {a:Expr} {ta:TE} (hK:X.K=K) (ha:PE X a ta) (he:∀whole,isTrue a X.env whole=(do let v <- whole; standAt a.pos; holding [v] (truthy v))):PT X a (Gz K ta):=by subst hK;exact E1 ha he
end L2
namespace Gx
open PySem L2
abbrev tx (l:List Nat):Str:=#[l.toArray]
def kX (l:List Nat):(tx l).cps.toList=l:=by unfold tx; simp
def gd (l:List Nat):(tx l).length=l.length:=by unfold tx Str.length; simp
def l8 (a b:List Nat):tx a++tx b=tx (a++b):=by show(#[_++_]:Str)=_;unfold tx;simp
def oK {a b:List Nat} (h:tx a=tx b):a=b:=by rw[<- kX a,h,kX]
def Ix (y:Str) (ys:List Str):PySem.Txt.join "" (y::ys)=y++PySem.Txt.join "" ys:=by
 show PySem.Builtin.Str.glued ("":Str) (y::ys)=y++PySem.Builtin.Str.glued ("":Str) ys;rw[PySem.StrLaws.glued_eq_join,PySem.StrLaws.glued_eq_join];cases ys with
 | nil =>
   show y=y++Str.empty;cases y;show _=(#[_++(List.toArray [])]:Str);simp
 | cons z zs =>
   show y++""++Str.join "" (z::zs)=_;have:y++("":Str)=y:=by cases y;show(#[_++(List.toArray [])]:Str)=_;simp
   rw[this]
def xQ:∀(ls:List (List Nat)),PySem.Txt.join "" (ls.map tx)=tx ls.flatten
 | []=>by show PySem.Builtin.Str.glued ("":Str) []=_;rw[PySem.StrLaws.glued_eq_join];rfl
 | l::ls=>by rw[Jd,Ix,xQ ls,l8,Kp]
end Gx
namespace L2
open PySem PySem.Spec PyProof.Rows
abbrev kZ (K:Md) (a:Mc):It :=
 #[λi H=>∃xs x,aE K H a xs/\xs[i]?=⇑x,λi H y H'=>∃b,y=↥b/\H b=none/\∀xs x,aE K H a xs->xs[i]?=⇑x->H'=upd H b (.tup [.int i,x]),λi H=>∃xs,aE K H a xs/\xs.length=i]
def IM {P:Program} {w:World} {K:Md} {elts:List Expr} {k:Nat} {pos:Pos} (a e it:Mc) (hne:e≠it):Turn P w K (.Tuple elts k pos) (kZ K a) [e,it] e (λi h=>(∃old,IsEnum h e it i old)/\h.IsListIter it a i) where
 mem:=by simp
 obj:=λi h st b hb=>by
   obtain⟨⟨old,he⟩,⟨o,ho,hc,hd⟩⟩:=st;rcases JT.mp hb with z|z
   . subst z;show#[_,he,λv z=>by cases (show Data.fields _=Data.cell v from z)]
   . have z:b=it:=↑z
     subst z;show#[o,ho,λv z=>by rw[hd] at z; cases z]
 keep:=λi h h' st kk=>by obtain⟨⟨old,he⟩,⟨o,ho,r⟩⟩:=st;show#[#[old,kk e 0x6 _ he],#[o,kk it 0x6 o ho,r]]
 item:=by
   intro X hP hw hK hc i pins s σ H E I hf st hg;subst hP hw hK;obtain⟨⟨old,he⟩,hit⟩:=st;let#[xs,x,hq,hx]:=hg;let#[its,rv,p,hz]:=I.list hq;have pt:s.heap.IsList a its.toArray:=p.isList;let#[u,hu,ru]:=rv.get hx;have hia:a≠it:=λz=>by
     subst z;let#[o1,h1,c1,_]:=hit;let#[o2,h2,c2,_]:=pt;rw[h1] at h2;cases h2;rw[c1] at c2;injection c2 with c2
     exact absurd c2 #[]
   have hea:e ∉ [it,a]:=λz=>by
     rcases JT.mp z with z|z
     . exact hne z
     . have z:e=a:=↑z
       subst z;let#[o2,h2,c2,_]:=pt;rw[he] at h2;cases h2;injection (show Value.type "enumerate"=Value.type "list" from c2) with c2
       exact absurd c2 #[]
   have hlt:i<its.toArray.size:=by have:=(JH.mp hu).1;simpa using this
   refine MM (Draws.list (A:=X.A.in1) (I.ok.hd hc) it a hia its.toArray) he #[hit,pt] hlt hne hea λy h' tk hy hout hst hT hsz hk=>?_;show#[5,M3 hout λh2 he2 hs2=>?_];have hs2:Heap.SameBut e h' h2:=hs2;have hyu:y=u:=by
     have hy:its.toArray[i]?=⇑y:=hy;have:its[i]?=⇑y:=↑hy
     rw[hu] at this;exact(Option.some.inj this).symm
   subst hyu;have helt:e<s.heap.objs.size:=JX he;have hfr:H s.heap.objs.size=none:=I.hok.fresh (JN _);have hnS:s.heap.objs.size≠e:=Ka helt;have hT2:h2.get? s.heap.objs.size=some { cls:=.type "tuple",data:=.seq (List.toArray [.int i tk,y]) }:=(hs2.2 _ hnS)\hT;show#[↥s.heap.objs.size,upd H s.heap.objs.size (.tup [.int i,x]),I.turnLaid (t':=tk+1) (ch:=[e,it]) (λb o hb q=>?_) hf (JN _) ?_,rfl,#[s.heap.objs.size,rfl,hfr,λxs' x' hq' hx'=>?_],#[#[y,by exact_mod_cast he2],?_],λb hb=>?_]
   . have h1:b≠e:=λz=>hb (by simp [z]);have h3:b≠it:=λz=>hb (by simp [z]);exact(hs2.2 b h1).trans (hk b o h1 h3 q)
   . show#[by show 2<=sizeLine; decide,[.int i tk,y],.cons #[tk,rfl] (.cons ru .nil),#[_,hT2,13]]
   . have:=I.list_inj hq' hq;subst this;rw[hx] at hx';cases hx';rfl
   . obtain⟨⟨o,ho,r⟩,_⟩:=hst;show#[o,(hs2.2 it hne.symm)\ho,r]
   . have hb0:=(hf b hb).1;rw[am]
     . exact hb0
     . intro z;subst z;let#[o,ho,_]:=hit;rcases JT.mp hb with z|z
       . exact hnS z
       . have z:s.heap.objs.size=it:=↑z
         exact absurd (JX ho) (by rw[<- z]; exact K2 _)
 done:=by
   intro X hP hw hK hc i pins s σ H E I hf st hg;subst hP hw hK;obtain⟨⟨old,he⟩,hit⟩:=st;let#[xs,hq,hx]:=hg;let#[its,rv,p,hz]:=I.list hq;have pt:s.heap.IsList a its.toArray:=p.isList;have hl:=rv.length;have hia:a≠it:=λz=>by
     subst z;let#[o1,h1,c1,_]:=hit;let#[o2,h2,c2,_]:=pt;rw[h1] at h2;cases h2;rw[c1] at c2;injection c2 with c2
     exact absurd c2 #[]
   have hi:i=its.toArray.size:=by simp; lia
   refine wpAny_pyNext_enum_endD (Draws.list (A:=X.A.in1) (I.ok.hd hc) it a hia its.toArray) he (by rw[<- hi]; show#[hit,pt]) λh' eb=>#[rfl,?_]
   exact I.turnedL (t':=s.toks) (ch:=[e,it]) (λb o hb q=>eb b o (λz=>hb (by simp [z])) q) hf
 self:=λ_ _ _ _ _ st h=>by obtain⟨⟨old,he⟩,_⟩:=st;exact LN he h
section
variable {X:Cx}
abbrev EF (K:Md) (ta:TA):TI:=λσ H R=>ta σ H λvs H1=>∃a,vs=[↥a]/\(∃xs,aE K H1 a xs)/\R (kZ K a) H1
def J0 {a:Expr} {ta:TA} {p pos tpos:Pos} {elts:List Expr} {k:Nat} (hg:Gl X "enumerate") (hm:X.mg "enumerate"=none) (ha:PA X [a] ta) (hs:starEach [a] X.env=[(false,eval a X.env)]:=by rfl):PI X (.Tuple elts k tpos) (.Call (.Name "enumerate" p) [a] [] pos) (EF X.K ta):=by
 intro pins s σ H R I h;refine Call_ (fY I hg hm uU (Jv (al (ha pos pins s σ H _ I h) λus s1 z149_=>?_) hs rfl));let#[vs,H1,I1,r1,q1]:=z149_;obtain⟨a,e,⟨xs,hq⟩,q⟩:=q1;subst e;cases r1 with
 | cons r rr =>
   cases rr;cases r;let#[its,rv,p,hz]:=I1.list hq;refine call_enumerate_list p.isList λh' he hit _ hk=>?_;refine LN he ?_;show#[s1.heap.objs.size+1,[s1.heap.objs.size+1,s1.heap.objs.size],4,H1,rfl,I1.kept (t':=s1.toks) hk,IM a (s1.heap.objs.size+1) s1.heap.objs.size (Nat.succ_ne_self _),#[#[.none,he],hit],λb hb=>?_,q];rcases JT.mp hb with z|z
   . subst z;exact I1.fpOk (LQ _) (I1.hok.fresh (LQ _))
   . have z:b=s1.heap.objs.size:=↑z
     subst z;exact I1.fpOk (JN _) (I1.hok.fresh (JN _))
def AY {K:Md} {a:Mc} {xs:List V} {g:TG} {tb:TS} {D:cU} {σ:St} {H:Hp} (Pv:Nat->St->Hp->Prop) (h0:Pv 0 σ H) (hl:∀i σ H,i<=xs.length->Pv i σ H->aE K H a xs)
   (hs:∀i x σ H b,xs[i]?=⇑x->Pv i σ H->H b=none->g ↥b σ (upd H b (.tup [.int i,x])) λσ2 H2=>tb { D with nx:=Pv (i+1),ct:=Pv (i+1),bk:=D.nx } σ2 H2) (hd:∀σ H,Pv xs.length σ H->D.nx σ H) :
   ∃W:Nat->Nat->St->Hp->Prop,(∃m,W 0 m σ H)/\∀i m σ H,W i m σ H->((kZ K a).stop i H/\D.nx σ H)\/((kZ K a).go i H/\∃N:St->Hp->Prop,(∀σ' H',N σ' H'->∃m',m'<m/\W (i+1) m' σ' H')/\∀x H',(kZ K a).yld i H x H'->g x σ H' λσ2 H2=>tb { D with nx:=N,ct:=N,bk:=D.nx } σ2 H2):=by
 show#[λi m σ H=>m=xs.length - i/\i<=xs.length/\Pv i σ H,#[xs.length,by simp,Jm _,h0],?_];rintro i m σ H ⟨rfl,hi,p⟩;have q:=hl i σ H hi p;by_cases hlt:i<xs.length
 . refine .inr #[#[xs,xs[i],q,by simp [hlt]],Pv (i+1),λσ' H' p'=>#[xs.length - (i+1),∅,rfl,hlt,p'],λx H' y=>?_];let#[b,rfl,hb,y]:=y;rw[y xs xs[i] q (by simp [hlt])];exact hs i xs[i] σ H b (by simp [hlt]) p hb
 . have e:i=xs.length:=by lia
   subst e;exact .inl #[#[xs,q,rfl],hd σ H p]
end
end L2
namespace PySem
open Sem (wp)
abbrev bS (b:Bool) (h:Heap) (it l:Mc) (k:Nat):Prop:=match b with|true=>h.IsTupleIter it l k|false=>h.IsListIter it l k
abbrev bn (b:Bool) (h:Heap) (l:Mc) (xs:Array Ma):Prop:=match b with|true=>h.IsTuple l xs|false=>h.IsList l xs
variable {b:Bool} {h h':Heap} {it l:Mc}
def bS.at {k:Nat} (p:bS b h it l k) (e:∀o,h.get? it=⇑o->h'.get? it=⇑o):bS b h' it l k:=by cases b <;> (let#[o,ho,r]:=p; show#[o,e o ho,r])
variable {xs:Array Ma}
def bn.at (p:bn b h l xs) (e:∀o,h.get? l=⇑o->h'.get? l=⇑o):bn b h' l xs:=by cases b <;> (let#[o,ho,r]:=p; show#[o,e o ho,r])
def bS.extBut {c:Mc}{k:Nat} (p:bS b h it l k) (e:Heap.ExtBut c h h') (n:it≠c):bS b h' it l k:=p.at λo ho=>e _ _ n ho
def bn.extBut {c:Mc}(p:bn b h l xs) (e:Heap.ExtBut c h h') (n:l≠c):bn b h' l xs:=p.at λo ho=>e _ _ n ho
def bS.lt {k:Nat} (p:bS b h it l k):it<h.objs.size:=by cases b <;> (let#[o,ho,r]:=p; exact JX ho)
variable {b1 b2:Bool} {z i1 i2 l1 l2:Mc} {k1 k2:Nat} {ys:Array Ma}
section
variable {prog:Program} {w:World} {A:Around} {E:Ma->Mb->Prop} {s:Mb}
def kB {i:Nat} {items:Array Ma} {x:Ma} {Q:Ma->Mb->Prop} (p:bS b s.heap it l i) (q:bn b s.heap l items) (hx:items[i]?=⇑x)
   (hQ:∀h',bS b h' it l (i+1)->Heap.SameBut it s.heap h'->Q x { s with heap:=h' }):wpAny 0x9 A (Builtin.SmallTypes.nextOf ↥it) Q E s:=by
 cases b with
 | true=>exact L2.gx_nextOf_tup p q hx hQ
 | false=>exact wpAny_nextOf_list_item p q hx hQ
def nS {i:Nat} {items:Array Ma} {Q:Ma->Mb->Prop} (hh:A.handled=none) (p:bS b s.heap it l i) (q:bn b s.heap l items) (hx:items[i]?=none)
   (hE:∀h' e,Heap.ExtBut it s.heap h'->(∃o,h'.get? e=⇑o/\o.cls=.type "StopIteration")->E ↥e { s with heap:=h' }):wpAny 0x9 A (Builtin.SmallTypes.nextOf ↥it) Q E s:=by
 cases b with
 | true=>exact L2.gx_nextOf_tup_end hh p q hx hE
 | false=>exact wpAny_nextOf_list_end hh p q hx hE
def IN {TI TO:Mc}{x y a b:Ma} {Q:Ma->Mb->Prop} (D:ZipApart z TI TO i1 i2 l1 l2)
   (zZ:IsZip s.heap z TI TO .none) (zI:IsPair s.heap TI ↥i1 ↥i2) (zO:IsPair s.heap TO a b)
   (p1:bS b1 s.heap i1 l1 k1) (p2:bS b2 s.heap i2 l2 k2) (q1:bn b1 s.heap l1 xs) (q2:bn b2 s.heap l2 ys) (hx:xs[k1]?=⇑x) (hy:ys[k2]?=⇑y)
   (hQ:∀h',IsZip h' z TI TO (rawInt s.heap.objs.size)->IsPair h' TO x y->bS b1 h' i1 l1 (k1+1)->bS b2 h' i2 l2 (k2+1)->IsPair h' s.heap.objs.size x y->h'.objs.size=s.heap.objs.size+1 ->
     (∀c o,c≠z->c≠TO->c≠i1->c≠i2->s.heap.get? c=⇑o->h'.get? c=⇑o)->Q ↥s.heap.objs.size { s with heap:=h' }) :
   wpAny 0x9 A (Builtin.«zip.__next__» #[[↥z],[]]) (λfin s'=>∃v,fin=.done (.ret v)/\Q v s') E s:=by
 show wpAny _ _ (field ↥z 2 >>= _) _ _ _; refine JD (K4 zZ rfl (x:=.bool false) rfl ?_); show wpAny _ _ (field ↥z 3 >>= _) _ _ _; refine JD (K4 zZ rfl (x:=↥TI) rfl ?_); refine JD (KW zI rfl ?_); show wpAny _ _ (Builtin.SmallTypes.ownedTupleIsFree ↥z >>= _) _ _ _; refine JD ?_; unfold Builtin.SmallTypes.ownedTupleIsFree; refine JD (K4 zZ rfl (x:=.none) rfl (JQ ?_)); simp only[if_true]; refine JD (Lh ?_); refine JD (K4 zZ rfl (x:=↥TO) rfl ?_);refine JD (Kk zZ 0x6 λh₁ zZ₁ hs₁=>?_); replace zZ₁:IsZip h₁ z TI TO .ellipsis:=zZ₁; refine JD ?_; simp only[List.zipIdx_cons,List.zipIdx_nil,LB,Lu];refine JD (JD (M4 ?_)); show wpAny _ _ (Builtin.SmallTypes.nextOf ↥i1 >>= _) _ _ _; refine JD (kB (p1.extBut hs₁.extBut D.i1z) (q1.extBut hs₁.extBut D.l1z) hx λh₂ h1₂ hs₂=>JQ ?_); have hTO₂:IsPair h₂ TO a b:=hs₂.extBut _ _ D.TOi1 (hs₁.extBut _ _ D.TOz zO); refine JD (KW hTO₂ rfl ?_); refine JD (Li hTO₂ λh₃ hTO₃ hs₃=>?_); replace hTO₃:IsPair h₃ TO x b:=hTO₃; refine JD (MT (JQ ?_))
 refine JD (JD (M4 ?_)); show wpAny _ _ (Builtin.SmallTypes.nextOf ↥i2 >>= _) _ _ _; refine JD (kB (((p2.extBut hs₁.extBut D.i2z).extBut hs₂.extBut D.i12.symm).extBut hs₃.extBut D.TOi2.symm)
   (((q2.extBut hs₁.extBut D.l2z).extBut hs₂.extBut D.l2i1).extBut hs₃.extBut D.l2TO) hy λh₄ h2₄ hs₄=>JQ ?_)
 have hTO₄:IsPair h₄ TO x b:=hs₄.extBut _ _ D.TOi2 hTO₃; refine JD (KW hTO₄ rfl ?_); refine JD (Li hTO₄ λh₅ hTO₅ hs₅=>?_); replace hTO₅:IsPair h₅ TO x y:=hTO₅; refine JD (MT (JQ (JQ ?_)));refine JD (KW hTO₅ rfl ?_); refine JD (wpAny_newTuple ?_); have hsz:h₅.objs.size=s.heap.objs.size:=(by rw[hs₅.1,hs₄.1,hs₃.1,hs₂.1,hs₁.1]); have hz₅:IsZip h₅ z TI TO .ellipsis:=hs₅.extBut _ _ D.TOz.symm (hs₄.extBut _ _ D.i2z.symm (hs₃.extBut _ _ D.TOz.symm (hs₂.extBut _ _ D.i1z.symm zZ₁))); have hk₅:∀c o,c≠z->c≠TO->c≠i1->c≠i2->s.heap.get? c=⇑o->h₅.get? c=⇑o:=λc o c1 c2 c3 c4 e =>
   hs₅.extBut _ _ c2 (hs₄.extBut _ _ c4 (hs₃.extBut _ _ c2 (hs₂.extBut _ _ c3 (hs₁.extBut _ _ c1 e))))
 have h1₅:bS b1 h₅ i1 l1 (k1+1):=((h1₂.extBut hs₃.extBut D.TOi1.symm).extBut hs₄.extBut D.i12).extBut hs₅.extBut D.TOi1.symm; have h2₅:bS b2 h₅ i2 l2 (k2+1):=h2₄.extBut hs₅.extBut D.TOi2.symm; have hzlt:z<h₅.objs.size:=JX hz₅; have hTOlt:TO<h₅.objs.size:=JX hTO₅; have hi1lt:i1<h₅.objs.size:=bS.lt h1₅; have hi2lt:i2<h₅.objs.size:=bS.lt h2₅; show wpAny _ _ (Builtin.SmallTypes.ownedTupleHandOut ↥z ↥h₅.objs.size >>= _) _ _ _; refine JD ?_; unfold Builtin.SmallTypes.ownedTupleHandOut; have hz₆:IsZip (h₅.push { cls:=.type "tuple",data:=.seq (List.toArray [x,y]) }) z TI TO .ellipsis:=JJ _ hz₅
 refine JD (Kk hz₆ 0x6 λh₇ hz₇ hs₇=>?_); replace hz₇:IsZip h₇ z TI TO (rawInt h₅.objs.size):=hz₇; refine Kk hz₇ 0x6 λh₈ hz₈ hs₈=>?_; replace hz₈:IsZip h₈ z TI TO (rawInt h₅.objs.size):=hz₈; have up:∀c o,c≠z->h₅.get? c=⇑o->h₈.get? c=⇑o:=λc o c1 e=>hs₈.extBut _ _ c1 (hs₇.extBut _ _ c1 (JJ _ e)); have hT₈:IsPair h₈ h₅.objs.size x y:=hs₈.extBut _ _ (Ka hzlt) (hs₇.extBut _ _ (Ka hzlt) (Jb _ rfl)); have hz8:h₈.objs.size=h₅.objs.size+1:=(by rw[hs₈.1,hs₇.1,Kd])
 rw[hsz] at hz₈ hT₈ hz8;refine JQ #[5,?_]; show Q ↥h₅.objs.size _;rw[hsz];exact hQ h₈ hz₈ (up _ _ D.TOz hTO₅) (h1₅.at λo e=>up _ o D.i1z e) (h2₅.at λo e=>up _ o D.i2z e) hT₈ hz8 λc o c1 c2 c3 c4 e=>up c o c1 (hk₅ c o c1 c2 c3 c4 e)
def Fm {TI TO:Mc}{a b:Ma} {Q:Fin->Mb->Prop} (hh:A.handled=none) (D:ZipApart z TI TO i1 i2 l1 l2)
   (zZ:IsZip s.heap z TI TO .none) (zI:IsPair s.heap TI ↥i1 ↥i2) (zO:IsPair s.heap TO a b)
   (p1:bS b1 s.heap i1 l1 k1) (p2:bS b2 s.heap i2 l2 k2) (q1:bn b1 s.heap l1 xs) (q2:bn b2 s.heap l2 ys) (hend:xs[k1]?=none\/ys[k2]?=none)
   (hE:∀h' e,(∀c o,c≠z->c≠TO->c≠i1->c≠i2->s.heap.get? c=⇑o->h'.get? c=⇑o)->(∃o,h'.get? e=⇑o/\o.cls=.type "StopIteration")->E ↥e { s with heap:=h' }) :
   wpAny 0x9 A (Builtin.«zip.__next__» #[[↥z],[]]) Q E s:=by
 show wpAny _ _ (field ↥z 2 >>= _) _ _ _; refine JD (K4 zZ rfl (x:=.bool false) rfl ?_); show wpAny _ _ (field ↥z 3 >>= _) _ _ _; refine JD (K4 zZ rfl (x:=↥TI) rfl ?_); refine JD (KW zI rfl ?_); show wpAny _ _ (Builtin.SmallTypes.ownedTupleIsFree ↥z >>= _) _ _ _; refine JD ?_; unfold Builtin.SmallTypes.ownedTupleIsFree; refine JD (K4 zZ rfl (x:=.none) rfl (JQ ?_)); simp only[if_true]; refine JD (Lh ?_); refine JD (K4 zZ rfl (x:=↥TO) rfl ?_);refine JD (Kk zZ 0x6 λh₁ zZ₁ hs₁=>?_); replace zZ₁:IsZip h₁ z TI TO .ellipsis:=zZ₁; refine JD ?_; simp only[List.zipIdx_cons,List.zipIdx_nil,LB,Lu]; refine JD (JD (M4 ?_)); show wpAny _ _ (Builtin.SmallTypes.nextOf ↥i1 >>= _) _ _ _;cases hx:xs[k1]? with
 | none =>
   refine JD (nS hh (p1.extBut hs₁.extBut D.i1z) (q1.extBut hs₁.extBut D.l1z) hx λh₂ e hs₂ he=>?_); let#[oe,hoe,hce]:=he; have hz₂:IsZip h₂ z TI TO .ellipsis:=hs₂ _ _ D.i1z.symm zZ₁; have hez:e≠z:=(λx=>by subst x; rw[hz₂] at hoe; cases hoe; simp at hce); refine Kk hz₂ 0x6 λh₃ _ hs₃=>hE h₃ e (λc o c1 _ c3 _ x=>hs₃.extBut _ _ c1 (hs₂ _ _ c3 (hs₁.extBut _ _ c1 x))) #[oe,hs₃.extBut _ _ hez hoe,hce]
 | some x =>
   have hy:ys[k2]?=none:=(by rcases hend with h|h; rw[hx] at h; cases h; exact h); refine JD (kB (p1.extBut hs₁.extBut D.i1z) (q1.extBut hs₁.extBut D.l1z) hx λh₂ h1₂ hs₂=>JQ ?_); have hTO₂:IsPair h₂ TO a b:=hs₂.extBut _ _ D.TOi1 (hs₁.extBut _ _ D.TOz zO); refine JD (KW hTO₂ rfl ?_); refine JD (Li hTO₂ λh₃ hTO₃ hs₃=>?_); refine JD (MT (JQ ?_)); refine JD (JD (M4 ?_)); show wpAny _ _ (Builtin.SmallTypes.nextOf ↥i2 >>= _) _ _ _; refine JD (nS hh (((p2.extBut hs₁.extBut D.i2z).extBut hs₂.extBut D.i12.symm).extBut hs₃.extBut D.TOi2.symm)
     (((q2.extBut hs₁.extBut D.l2z).extBut hs₂.extBut D.l2i1).extBut hs₃.extBut D.l2TO) hy λh₄ e hs₄ he=>?_)
   let#[oe,hoe,hce]:=he; have hz₄:IsZip h₄ z TI TO .ellipsis:=hs₄ _ _ D.i2z.symm (hs₃.extBut _ _ D.TOz.symm (hs₂.extBut _ _ D.i1z.symm zZ₁)); have hez:e≠z:=(λx=>by subst x; rw[hz₄] at hoe; cases hoe; simp at hce); refine Kk hz₄ 0x6 λh₅ _ hs₅=>hE h₅ e (λc o c1 c2 c3 c4 x=>hs₅.extBut _ _ c1 (hs₄ _ _ c4 (hs₃.extBut _ _ c2 (hs₂.extBut _ _ c3 (hs₁.extBut _ _ c1 x))))) #[oe,hs₅.extBut _ _ hez hoe,hce]
def wA {TI TO:Mc}{x y a b:Ma} {Q:JK Ma->Mb->Prop} (D:ZipApart z TI TO i1 i2 l1 l2)
   (zZ:IsZip s.heap z TI TO .none) (zI:IsPair s.heap TI ↥i1 ↥i2) (zO:IsPair s.heap TO a b)
   (p1:bS b1 s.heap i1 l1 k1) (p2:bS b2 s.heap i2 l2 k2) (q1:bn b1 s.heap l1 xs) (q2:bn b2 s.heap l2 ys) (hx:xs[k1]?=⇑x) (hy:ys[k2]?=⇑y)
   (hQ:∀h',IsZip h' z TI TO (rawInt s.heap.objs.size)->IsPair h' TO x y->bS b1 h' i1 l1 (k1+1)->bS b2 h' i2 l2 (k2+1)->IsPair h' s.heap.objs.size x y->h'.objs.size=s.heap.objs.size+1 ->
     (∀c o,c≠z->c≠TO->c≠i1->c≠i2->s.heap.get? c=⇑o->h'.get? c=⇑o)->Q ⇑↥s.heap.objs.size { s with heap:=h' }) :
   wpAny 0x9 A (pyNext ↥z) Q E s:=by
 have hT:s.TypeIs ↥z "zip":=#[_,zZ,rfl]; unfold pyNext;exact JD (M5 (wpAny_callSpecial?_slot (name:=Str.ofString "__next__") hT Kl
   (KJ Kl hT LX
     (IN D zZ zI zO p1 p2 q1 q2 hx hy λh' a1 a2 a3 a4 a5 a6 a7=>JQ (hQ h' a1 a2 a3 a4 a5 a6 a7)) (LO _))))
def vW {TI TO:Mc}{a b:Ma} {Q:JK Ma->Mb->Prop} (hh:A.handled=none) (D:ZipApart z TI TO i1 i2 l1 l2)
   (zZ:IsZip s.heap z TI TO .none) (zI:IsPair s.heap TI ↥i1 ↥i2) (zO:IsPair s.heap TO a b)
   (p1:bS b1 s.heap i1 l1 k1) (p2:bS b2 s.heap i2 l2 k2) (q1:bn b1 s.heap l1 xs) (q2:bn b2 s.heap l2 ys) (hend:xs[k1]?=none\/ys[k2]?=none)
   (hQ:∀h',(∀c o,c≠z->c≠TO->c≠i1->c≠i2->s.heap.get? c=⇑o->h'.get? c=⇑o)->Q none { s with heap:=h' }):wpAny 0x9 A (pyNext ↥z) Q E s:=by
 have hT:s.TypeIs ↥z "zip":=#[_,zZ,rfl]; unfold pyNext; refine JD (M5 (wpAny_callSpecial?_slot (name:=Str.ofString "__next__") hT Kl
   (KJ Kl hT LX (Fm hh D zZ zI zO p1 p2 q1 q2 hend λh' e hk he=>?_) (LO _))))
 let#[o,ho,hc]:=he; refine JD (ME (T:="StopIteration") (b:=true) #[o,ho,hc] isSubtype_stop ?_);exact JQ (hQ _ hk)
end
abbrev dv (b:Bool) (l:Mc):Obj:={ cls:=.type (match b with|true=>"tuple_iterator" | false=>"list_iterator"),data:=.fields (List.toArray [↥l,.int 0 0]) }
def Fw (b1 b2:Bool) (l1 l2:Mc) (xs ys:Array Ma) :
   Meets (Builtin.«zip.__new__» #[[.type "zip",↥l1,↥l2],[]]) (λ_ R s=>bn b1 s.heap l1 xs/\bn b2 s.heap l2 ys /\
     R (.ok (.ret ↥((((s.heap.push (dv b1 l1)).push (dv b2 l2)).push { cls:=.type "tuple",data:=.seq (List.toArray [↥s.heap.objs.size,↥(s.heap.push (dv b1 l1)).objs.size]) }).push { cls:=.type "tuple",data:=.seq (List.toArray [.none,.none]) }).objs.size))
       { s with heap:=(((((s.heap.push (dv b1 l1)).push (dv b2 l2)).push { cls:=.type "tuple",data:=.seq (List.toArray [↥s.heap.objs.size,↥(s.heap.push (dv b1 l1)).objs.size]) }).push { cls:=.type "tuple",data:=.seq (List.toArray [.none,.none]) }).push
         { cls:=.type "zip",data:=.fields (List.toArray [.none,.bool false,.bool false,↥((s.heap.push (dv b1 l1)).push (dv b2 l2)).objs.size,↥(((s.heap.push (dv b1 l1)).push (dv b2 l2)).push { cls:=.type "tuple",data:=.seq (List.toArray [↥s.heap.objs.size,↥(s.heap.push (dv b1 l1)).objs.size]) }).objs.size]) }) }) :=
 .of_wp λprog w A R s h=>by
   let#[hp,g,d,tk,os]:=s; let#[q1,q2,h]:=h;have hsub:=sub_zip;have q2':bn b2 (hp.push (dv b1 l1)) l2 ys:=q2.at λo e=>JJ _ e;cases b1 with
   | true =>
     have hL1:Heap.IsTuple (Shared.heap ⟨hp,g,d,tk,os⟩) l1 xs:=q1;cases b2 with
     | true =>
       have hL2:Heap.IsTuple (Shared.heap ⟨hp.push { cls:=.type "tuple_iterator",data:=.fields (List.toArray [↥l1,.int 0 0]) },g,d,tk,os⟩) l2 ys:=q2'
       wp_walk using Kj hL1,Kj hL2; show#[5,h]
     | false =>
       have hL2:Heap.IsList (Shared.heap ⟨hp.push { cls:=.type "tuple_iterator",data:=.fields (List.toArray [↥l1,.int 0 0]) },g,d,tk,os⟩) l2 ys:=q2'
       wp_walk using Kj hL1,Kw hL2; show#[5,h]
   | false =>
     have hL1:Heap.IsList (Shared.heap ⟨hp,g,d,tk,os⟩) l1 xs:=q1;cases b2 with
     | true =>
       have hL2:Heap.IsTuple (Shared.heap ⟨hp.push { cls:=.type "list_iterator",data:=.fields (List.toArray [↥l1,.int 0 0]) },g,d,tk,os⟩) l2 ys:=q2'
       wp_walk using Kw hL1,Kj hL2; show#[5,h]
     | false =>
       have hL2:Heap.IsList (Shared.heap ⟨hp.push { cls:=.type "list_iterator",data:=.fields (List.toArray [↥l1,.int 0 0]) },g,d,tk,os⟩) l2 ys:=q2'
       wp_walk using Kw hL1,Kw hL2; show#[5,h]
section
variable {prog:Program} {w:World} {A:Around} {E:Ma->Mb->Prop} {s:Mb}
def ud (e:h.get? it=⇑(dv b l)):bS b h it l 0:=by cases b <;> show#[_,e,7]
def xM {Q:Ma->Mb->Prop} (q1:bn b1 s.heap l1 xs) (q2:bn b2 s.heap l2 ys)
   (h:∀h' (n:Nat),n=s.heap.objs.size->IsZip h' (n+4) (n+2) (n+3) .none->IsPair h' (n+2) ↥n ↥(n+1)->IsPair h' (n+3) .none .none->bS b1 h' n l1 0->bS b2 h' (n+1) l2 0 ->
     (∀c o,s.heap.get? c=⇑o->h'.get? c=⇑o)->Q ↥(n+4) { s with heap:=h' }) :
   wpAny 0x9 A (call (.type "zip") [↥l1,↥l2]) Q E s:=by
 refine callType_new F.called_zip #[] (F.typeCall_zip_2 _ _) (F.newCall_zip_2 _ _) (λobj=>F.args_object_init_3 obj _ _) F.entry_zip_new (Fw b1 b2 l1 l2 xs ys) #[q1,q2,?_];generalize ho1:dv b1 l1=o1;generalize ho2:dv b2 l2=o2;have z1:(s.heap.push o1).objs.size=s.heap.objs.size+1:=Kd ..;have z2:((s.heap.push o1).push o2).objs.size=s.heap.objs.size+2:=by rw[Kd,z1]
 rw[z1,z2];generalize hT1:({ cls:=.type "tuple",data:=.seq (List.toArray [↥s.heap.objs.size,↥(s.heap.objs.size+1)]) }:Obj)=t1;generalize hT2:({ cls:=.type "tuple",data:=.seq (List.toArray [.none,.none]) }:Obj)=t2;have z3:(((s.heap.push o1).push o2).push t1).objs.size=s.heap.objs.size+3:=by rw[Kd,z2]
 have z4:((((s.heap.push o1).push o2).push t1).push t2).objs.size=s.heap.objs.size+4:=by rw[Kd,z3]
 rw[z3,z4];generalize hZ:({ cls:=.type "zip",data:=.fields (List.toArray [.none,.bool false,.bool false,↥(s.heap.objs.size+2),↥(s.heap.objs.size+3)]) }:Obj)=tz;have g5:=Jb ((((s.heap.push o1).push o2).push t1).push t2) (o:=tz) (by rw[<- hZ]; rfl);have g4:=JJ tz (Jb (((s.heap.push o1).push o2).push t1) (o:=t2) (by rw[<- hT2]; rfl));have g3:=JJ tz (JJ t2 (Jb ((s.heap.push o1).push o2) (o:=t1) (by rw[<- hT1]; rfl)));have g2:=JJ tz (JJ t2 (JJ t1 (Jb (s.heap.push o1) (o:=o2) (by rw[<- ho2]; rfl))));have g1:=JJ tz (JJ t2 (JJ t1 (JJ o2 (Jb s.heap (o:=o1) (by rw[<- ho1]; rfl)))));rw[z4] at g5;rw[z3] at g4;rw[z2] at g3;rw[z1] at g2;subst hZ hT1 hT2 ho1 ho2;show#[#[_,g5,rfl],h _ s.heap.objs.size rfl g5 g3 g4 (ud g1) (ud g2) λc o x =>
   JJ _ (JJ _ (JJ _ (JJ _ (JJ _ x))))]
end
end PySem
namespace L2
open PySem PySem.Spec PyProof.Rows
abbrev d6 (b:Bool) (K:Md) (H:Hp) (l:Mc) (xs:List V):Prop:=match b with|true=>aD K H l xs|false=>aE K H l xs
variable {X:Cx} {H:Hp} {xs:List V}
def Inv.sqv {pins:List (Mc×Obj)} {σ:St} {s:Mb} {b:Bool} {l:Mc} (I:Inv X pins σ H s) (h:d6 b X.K H l xs):∃its:List Ma,ao xs its/\bn b s.heap l its.toArray:=by
 cases b with
 | true=>let#[its,r,p,_]:=I.tuple h; show#[its,r,p]
 | false=>let#[its,r,p,_]:=I.list h; show#[its,r,p.isList]
def Inv.sqv_inj {pins:List (Mc×Obj)} {σ:St} {s:Mb} {b:Bool} {l:Mc} {ys:List V}(I:Inv X pins σ H s) (h:d6 b X.K H l xs) (h':d6 b X.K H l ys):xs=ys:=by
 cases b with
 | true=>exact I.tuple_inj h h'
 | false=>exact I.list_inj h h'
def bn.lt {b:Bool} {h:Heap} {l:Mc} {xs:Array Ma} (p:bn b h l xs):l<h.objs.size:=by cases b <;> (let#[o,ho,r]:=p; exact JX ho)
abbrev jf (K:Md) (b1 b2:Bool) (l1 l2:Mc):It :=
 #[λi H=>∃xs ys x y,d6 b1 K H l1 xs/\d6 b2 K H l2 ys/\xs[i]?=⇑x/\ys[i]?=⇑y,
  λi H v H'=>∃b,v=↥b/\H b=none/\∀xs ys x y,d6 b1 K H l1 xs->d6 b2 K H l2 ys->xs[i]?=⇑x->ys[i]?=⇑y->H'=upd H b (.tup [x,y]),
  λi H=>∃xs ys,d6 b1 K H l1 xs/\d6 b2 K H l2 ys/\(xs[i]?=none\/ys[i]?=none)]
variable {K:Md}
def C0 {P:Program} {w:World} {elts:List Expr} {k:Nat} {pos:Pos} (b1 b2:Bool) (z TI TO i1 i2 l1 l2:Mc) (D:ZipApart z TI TO i1 i2 l1 l2) :
   Turn P w K (.Tuple elts k pos) (jf K b1 b2 l1 l2) [z,TI,TO,i1,i2] z (λi h=>IsZip h z TI TO .none/\IsPair h TI ↥i1 ↥i2/\(∃a b,IsPair h TO a b)/\bS b1 h i1 l1 i/\bS b2 h i2 l2 i) where
 mem:=by simp
 obj:=λi h st b hb=>by
   obtain⟨hz,hTI,⟨a,c,hTO⟩,h1,h2⟩:=st;simp only[JT,J',or_false] at hb;rcases hb with rfl|rfl|rfl|rfl|rfl
   . show#[_,hz,λv z=>by cases (show Data.fields _=Data.cell v from z)]
   . show#[_,hTI,λv z=>by cases (show Data.seq _ _=Data.cell v from z)]
   . show#[_,hTO,λv z=>by cases (show Data.seq _ _=Data.cell v from z)]
   . cases b1 <;> (let#[o,ho,hc,hd]:=h1; show#[o,ho,λv z=>by rw[hd] at z; cases z])
   . cases b2 <;> (let#[o,ho,hc,hd]:=h2; show#[o,ho,λv z=>by rw[hd] at z; cases z])
 keep:=λi h h' st kk=>by obtain⟨hz,hTI,⟨a,c,hTO⟩,h1,h2⟩:=st;show#[kk _ 0x6 _ hz,kk _ 0x6 _ hTI,#[a,c,kk _ 0x6 _ hTO],h1.at λo e=>kk _ 0x6 o e,h2.at λo e=>kk _ 0x6 o e]
 item:=by
   intro X hP hw hK hc i pins s σ H E I hf st hg;subst hP hw hK;obtain⟨hz,hTI,⟨oa,ob,hTO⟩,h1,h2⟩:=st;let#[xs,ys,x,y,e1,e2,hx,hy]:=hg;let#[is1,r1,p1]:=I.sqv e1;let#[is2,r2,p2]:=I.sqv e2;let#[u,hu,ru]:=r1.get hx;let#[v,hv,rv]:=r2.get hy;refine wA D hz hTI hTO h1 h2 p1 p2 ↑hu ↑hv λh' a1 a2 a3 a4 a5 a6 hk=>?_;show#[5,wpAny_letOwnedTupleGo_zip a1 λh3 hz3 hs3=>?_];have hs3:Heap.SameBut z h' h3:=hs3;have hzlt:z<s.heap.objs.size:=JX hz;have hfr:H s.heap.objs.size=none:=I.hok.fresh (JN _);have hnS:s.heap.objs.size≠z:=Ka hzlt;have hT3:IsPair h3 s.heap.objs.size u v:=(hs3.2 _ hnS)\a5;show#[↥s.heap.objs.size,upd H s.heap.objs.size (.tup [x,y]),I.turnLaid (t':=s.toks) (ch:=[z,TI,TO,i1,i2]) (λb o hb q=>?_) hf (JN _) ?_,rfl,#[s.heap.objs.size,rfl,hfr,λxs' ys' x' y' q1 q2 hx' hy'=>?_],#[hz3,?_,#[u,v,?_],?_,?_],λb hb=>?_]
   . have n1:b≠z:=λzz=>hb (by simp [zz]);have n3:b≠TO:=λzz=>hb (by simp [zz]);have n4:b≠i1:=λzz=>hb (by simp [zz]);have n5:b≠i2:=λzz=>hb (by simp [zz]);exact(hs3.2 b n1).trans (hk b o n1 n3 n4 n5 q)
   . show#[by show 2<=sizeLine; decide,[u,v],.cons ru (.cons rv .nil),#[_,hT3,13]]
   . have t1:=I.sqv_inj q1 e1;have t2:=I.sqv_inj q2 e2;subst t1 t2;rw[hx] at hx';rw[hy] at hy';cases hx';cases hy';rfl
   . exact(hs3.2 _ D.TIz).trans (hk _ _ D.TIz D.TITO D.TIi1 D.TIi2 hTI)
   . exact(hs3.2 _ D.TOz).trans a2
   . exact a3.at λo e=>(hs3.2 _ D.i1z)\e
   . exact a4.at λo e=>(hs3.2 _ D.i2z)\e
   . have hb0:=(hf b hb).1;rw[am]
     . exact hb0
     . intro zz;subst zz;simp only[JT,J',or_false] at hb;rcases hb with e|e|e|e|e
       . exact hnS e
       . exact absurd (JX hTI) (by rw[<- e]; exact K2 _)
       . exact absurd (JX hTO) (by rw[<- e]; exact K2 _)
       . exact absurd h1.lt (by rw[<- e]; exact K2 _)
       . exact absurd h2.lt (by rw[<- e]; exact K2 _)
 done:=by
   intro X hP hw hK hc i pins s σ H E I hf st hg;subst hP hw hK;obtain⟨hz,hTI,⟨oa,ob,hTO⟩,h1,h2⟩:=st;let#[xs,ys,e1,e2,hend]:=hg;let#[is1,r1,p1]:=I.sqv e1;let#[is2,r2,p2]:=I.sqv e2;refine vW (I.ok.hd hc) D hz hTI hTO h1 h2 p1 p2 ?_ λh' hk=>#[rfl,?_]
   . rcases hend with h|h
     . left; have:=r1.none_of h; simpa using this
     . right; have:=r2.none_of h; simpa using this
   . exact I.turnedL (t':=s.toks) (ch:=[z,TI,TO,i1,i2]) (λb o hb q=>hk b o (λzz=>hb (by simp [zz])) (λzz=>hb (by simp [zz])) (λzz=>hb (by simp [zz])) (λzz=>hb (by simp [zz])) q) hf
 self:=λ_ _ _ _ _ st h=>MG st.1 h
section
variable {X:Cx}
abbrev Aw (b1 b2:Bool) (K:Md) (ta:TA):TI:=λσ H R=>ta σ H λvs H1=>∃l1 l2,vs=[↥l1,↥l2]/\(∃xs,d6 b1 K H1 l1 xs)/\(∃ys,d6 b2 K H1 l2 ys)/\R (jf K b1 b2 l1 l2) H1
def jY (b1 b2:Bool) {a b:Expr} {ta:TA} {p pos tpos:Pos} {elts:List Expr} {k:Nat} (hg:Gl X "zip") (hm:X.mg "zip"=none) (ha:PA X [a,b] ta) (hs:starEach [a,b] X.env=(false,eval a X.env)::starEach [b] X.env:=by rfl) (hs2:(backTo pos (starEach [b] X.env)).any (·.1)=false:=by rfl) :
   PI X (.Tuple elts k tpos) (.Call (.Name "zip" p) [a,b] [] pos) (Aw b1 b2 X.K ta):=by
 intro pins s σ H R I h;refine Call_ (fY I hg hm uR (Jv (al (ha pos pins s σ H _ I h) λus s1 z150_=>?_) hs hs2));let#[vs,H1,I1,r1,q1]:=z150_;obtain⟨l1,l2,e,⟨xs,hx⟩,⟨ys,hy⟩,q⟩:=q1;subst e;cases r1 with
 | cons r rr =>
   cases rr with
   | cons r' rr =>
     cases rr;cases r;cases r';let#[is1,v1,p1]:=I1.sqv hx;let#[is2,v2,p2]:=I1.sqv hy;refine xM p1 p2 λh' n hn hz hTI hTO h1 h2 hk=>?_;subst hn;refine MG hz ?_;show#[s1.heap.objs.size+4,[s1.heap.objs.size+4,s1.heap.objs.size+2,s1.heap.objs.size+3,s1.heap.objs.size,s1.heap.objs.size+1],4,H1,rfl,I1.kept (t':=s1.toks) hk,C0 b1 b2 _ _ _ _ _ l1 l2 (zipApart_new (bn.lt p1) (bn.lt p2)),#[hz,hTI,#[4,hTO],h1,h2],λb hb=>?_,q];have hb':s1.heap.objs.size<=b:=by simp only[JT,J',or_false] at hb;rcases hb with e|e|e|e|e <;> rw[e] <;> first|exact JN _|exact Nat.le_add_right _ _
     exact I1.fpOk hb' (I1.hok.fresh hb')
def lK {b1 b2:Bool} {l1 l2:Mc} {ys:List V}{g:TG} {tb:TS} {D:cU} {σ:St} (Pv:Nat->St->Hp->Prop) (h0:Pv 0 σ H) (hl:∀i σ H,i<=min xs.length ys.length->Pv i σ H->d6 b1 K H l1 xs/\d6 b2 K H l2 ys)
   (hs:∀i x y σ H b,xs[i]?=⇑x->ys[i]?=⇑y->Pv i σ H->H b=none->g ↥b σ (upd H b (.tup [x,y])) λσ2 H2=>tb { D with nx:=Pv (i+1),ct:=Pv (i+1),bk:=D.nx } σ2 H2) (hd:∀σ H,Pv (min xs.length ys.length) σ H->D.nx σ H) :
   ∃W:Nat->Nat->St->Hp->Prop,(∃m,W 0 m σ H)/\∀i m σ H,W i m σ H->((jf K b1 b2 l1 l2).stop i H/\D.nx σ H)\/((jf K b1 b2 l1 l2).go i H/\∃N:St->Hp->Prop,(∀σ' H',N σ' H'->∃m',m'<m/\W (i+1) m' σ' H')/\∀x H',(jf K b1 b2 l1 l2).yld i H x H'->g x σ H' λσ2 H2=>tb { D with nx:=N,ct:=N,bk:=D.nx } σ2 H2):=by
 show#[λi m σ H=>m=min xs.length ys.length - i/\i<=min xs.length ys.length/\Pv i σ H,#[min xs.length ys.length,by simp,Jm _,h0],?_];rintro i m σ H ⟨rfl,hi,p⟩;let#[q1,q2]:=hl i σ H hi p;by_cases hlt:i<min xs.length ys.length
 . have l1':i<xs.length:=by lia
   have l2':i<ys.length:=by lia
   refine .inr #[#[xs,ys,xs[i],ys[i],q1,q2,by simp [l1'],by simp [l2']],Pv (i+1),λσ' H' p'=>#[min xs.length ys.length - (i+1),∅,rfl,hlt,p'],λx H' y=>?_];let#[b,rfl,hb,y]:=y;rw[y xs ys xs[i] ys[i] q1 q2 (by simp [l1']) (by simp [l2'])];exact hs i xs[i] ys[i] σ H b (by simp [l1']) (by simp [l2']) p hb
 . have e:i=min xs.length ys.length:=by lia
   subst e;refine .inl #[#[xs,ys,q1,q2,?_],hd σ H p];rcases Nat.le_total xs.length ys.length with h|h
   . left; rw[MS h]; exact Ku (JN _)
   . right; rw[MH h]; exact Ku (JN _)
end
structure ClsOk (K:W.Frag) (mg:Str->Option Value) (name:Str) (C:Addr):Prop where
 cl:Cls K C
 g:mg name=⇑↥C
structure MetOk (K:W.Frag) (C:Addr) (m qual:Str) (st:Stmt) (ps:List Str) (f:Addr) (fd:FuncData):Prop where
 F:Fun K m qual st f fd
 b:fP K fd ps []
 m:Meth K C m f
structure IniOk (K:W.Frag) (C:Addr) (qual:Str) (st:Stmt) (ps:List Str) (f:Addr) (fd:FuncData):Prop where
 F:Fun K "__init__" qual st f fd
 b:fP K fd ps []
 M:Mk K C f
section
variable {X:Cx} {k:Nat} {C f:Mc} {fd:FuncData} {ps:List Str} {sp:Sp} {x m qual:Str} {st:Stmt} {p pos apos:Pos} {o e:Expr} {es:List Expr} {ta:TE} {t:TA}
def tU (Cc:ClsOk X.K X.mg x C) (D:IniOk X.K C qual st ps f fd) (G:FnOk X.prog X.w X.K X.mg X.base CX0 k f fd ps sp) (hr:Room (k+1) X.A) (ha:PA X (e::es) t) (hg:Gl X x:=by rfl)
   (hdb:(x==("__debug__":Str))=false:=by decide) (he:starEach (e::es) X.env=(false,eval e X.env)::starEach es X.env:=by rfl) (hpl:(backTo pos (starEach es X.env)).any (·.1)=false:=by rfl) :
   PE X (.Call (.Name x p) (e::es) [] pos) (xh C sp [] E0 t):=Cs D.M G hr hg Cc.g D.b .nil eO ha hdb he hpl
def GU {C:Mc} {m qual:Str} {st:Stmt} {ps:List Str} {f:Mc} {oc:Ma} {od an:JK Mc} {osl:Array (JK Ma)} {kV doc pm cdv ct:Ma}
   (a:PySem.W.findIn K ↥C m=⇑⇑↥f) (i:PySem.W.isFn K ↥f=true) (l:K.lookup f=⇑#[oc,od,.func (PySem.W.fnOf m qual (dH st) (aV st) (az st) .none kV doc pm an cdv ct),osl]) (c:PySem.W.codeIn K cdv qual=true) (k:PySem.W.keepIn K ↥f=true)
   (b:∀(kV doc pm:Ma) (an:JK Mc) (cdv ct:Ma) (us:List Ma),us.length=ps.length->bindArgs (PySem.W.fnOf m qual (dH st) (aV st) (az st) .none kV doc pm an cdv ct) #[us,[]]=pure (ps.zip us)) :
   MetOk K C m qual st ps f (PySem.W.fnOf m qual (dH st) (aV st) (az st) .none kV doc pm an cdv ct) :=
 #[ju l c k,(ju l c k).binds b,#[a,i,k]]
def Eg {C:Mc} {qual:Str} {st:Stmt} {ps:List Str} {f:Mc} {oc:Ma} {od an:JK Mc} {osl:Array (JK Ma)} {kV doc pm cdv ct:Ma}
   (mk:PySem.W.makesIn K C=true) (kc:PySem.W.keepIn K ↥C=true) (a:PySem.W.findIn K ↥C "__init__"=⇑⇑↥f) (i:PySem.W.isFn K ↥f=true) (l:K.lookup f=⇑#[oc,od,.func (PySem.W.fnOf "__init__" qual (dH st) (aV st) (az st) .none kV doc pm an cdv ct),osl]) (c:PySem.W.codeIn K cdv qual=true) (k:PySem.W.keepIn K ↥f=true)
   (b:∀(kV doc pm:Ma) (an:JK Mc) (cdv ct:Ma) (us:List Ma),us.length=ps.length->bindArgs (PySem.W.fnOf "__init__" qual (dH st) (aV st) (az st) .none kV doc pm an cdv ct) #[us,[]]=pure (ps.zip us)) :
   IniOk K C qual st ps f (PySem.W.fnOf "__init__" qual (dH st) (aV st) (az st) .none kV doc pm an cdv ct) :=
 #[ju l c k,(ju l c k).binds b,#[mk,a,i,kc]]
end
def cr {A:Around} (h:A.units+64<cLine):A.units+1<cLine:=by lia
section
variable {prog:Program} {w:World} {A:Around} {E:Ma->Mb->Prop} {s:Mb}
open HT in
def IK {t sl:Mc} {items:Array Ma} {vl vu:Ma} {lo hi:JK Int} {Q:Ma->Mb->Prop} (ht:IsTup s.heap t items) (hs:s.heap.IsSliceOf sl vl vu .none) (pl:IsPart vl lo) (pu:IsPart vu hi)
   (hw:sIx items.size 0 lo=0/\sIx items.size items.size hi=items.size) (h:Q ↥t s):wpAny 0x9 A (getItem ↥t ↥sl) Q E s:=by
 let#[os,hos,hcs,hds]:=id hs;have tS:s.TypeIs ↥sl "slice":=#[os,hos,hcs]
 unfold getItem; try with_reducible refine K6 ?_
 first|refine JD (JQ ?_)|skip
 refine JD (M7 ht.typeIs #[] ?_); refine JD (wpAny_callSpecial?_slot (name:=Str.ofString "__getitem__") ht.typeIs KF (KJ KF ht.typeIs entry_tuple_getitem ?_ (args_tuple_getitem _ _)));show wpAny _ _ (Builtin.Tuple.tupleItemsOf ↥t >>= _) _ _ s; refine JD (tupleItemsOf_ ht ?_); refine JD (Kz tS ?_); rw[JR #[]]; refine JD (xI hs pl pu ?_);have yes:(((sIx items.size 0 lo:Nat):Int)==0&&(1:Int)==1&&(sIx items.size items.size hi - sIx items.size 0 lo)==items.size)=true:=by rw[hw.1,hw.2];simp
 show wpAny _ _ (if(((sIx items.size 0 lo:Nat):Int)==0&&(1:Int)==1&&(sIx items.size items.size hi - sIx items.size 0 lo)==items.size)=true then _ else _) _ _ s; rw[JR yes];show wpAny _ _ (Builtin.Tuple.tupleIsExact ↥t >>= _) _ _ s;unfold Builtin.Tuple.tupleIsExact;refine JD (JD (Kz ht.typeIs (JQ ?_)));rw[JR #[]];exact JD (Lh (JD (JQ (JQ #[5,JQ h]))))
end
abbrev wV (K:Md):V->JK Int->JK Int->Hp->VK->Prop:=λx lo hi H Q=>∃a xs,x=↥a/\aD K H a xs /\
 (HT.sIx xs.length 0 lo=0/\HT.sIx xs.length xs.length hi=xs.length)/\Q ↥a H
def EE :gP X (wV X.K):=by
 intro pins s σ H x v vl vu lo hi sl Q I rx hs pl pu h;let#[a,xs,rfl,hx,hw,q]:=h;cases rx;let#[its,r,ht,hz]:=I.tuple hx;have hlen:its.toArray.size=xs.length:=by rw[Ja]; exact r.length.symm
 show#["tuple",_,KF.lookup,ht.typeIs,IK ht hs pl pu (by rw[hlen]; exact hw) #[↥a,H,I,rfl,q]]
abbrev vi (K:Md):V->JK Int->JK Int->Hp->VK->Prop:=λx lo hi H Q=>vO K x lo hi H Q\/wV K x lo hi H Q
def lj :gP X (vi X.K):=C6.or EE
def j9 {Q:VK} {a:Mc} {lo hi:JK Int} (h:aD K H a xs) (q:∀p H',aA H H'->aD K H' p (bu xs lo hi)->Q ↥p H'):vi K ↥a lo hi H Q:=by
 by_cases hw:HT.sIx xs.length 0 lo=0/\HT.sIx xs.length xs.length hi=xs.length
 . refine .inr #[a,xs,rfl,h,hw,q a H (aA.refl _) ?_];have:bu xs lo hi=xs:=by unfold bu;rw[hw.1,hw.2,LJ,Lj,Jw]
   rw[this];exact h
 . exact .inl #[a,xs,rfl,h,hw,λp hp=>q p _ (aA.new hp) (aD.of aG)]
end L2
namespace K12
open PySem L2
abbrev step (acc:List Str) (s:Str):List Str:=if s∈acc then acc else acc++[s]
abbrev onceL (ss:List Str):List Str:=ss.foldl step []
abbrev strsOf (as:List V):List Str:=as.filterMap λv=>match v with | .str s=>⇑s|_=>none
def HE (a b:List V):strsOf (a++b)=strsOf a++strsOf b:=List.filterMap_append ..
def D1 (i:Int):strsOf [.int i]=[]:=rfl
def GC (acc:List Str) (s:Str):∀x∈acc,x∈step acc s:=λx hx=>by
 unfold step;split
 . exact hx
 . exact KB _ hx
def BD (acc:List Str) (s:Str):s∈step acc s:=by
 unfold step;split
 . assumption
 . exact Jq _ 0x6
def wS:∀(ss acc:List Str),∀x∈acc,x∈ss.foldl step acc
 | [],acc,x,hx=>hx
 | s::ss,acc,x,hx=>wS ss _ x (GC acc s x hx)
def uy:∀(ss acc:List Str),∀x∈ss,x∈ss.foldl step acc
 | s::ss,acc,x,hx=>by
   rcases JT.mp hx with e|e
   . subst e;exact wS ss _ _ (BD acc _)
   . exact uy ss _ x e
def xl:∀(B:List Str) (acc C:List Str),(B.foldl step C).foldl step acc=B.foldl step (C.foldl step acc)
 | [],acc,C=>rfl
 | s::B,acc,C=>by
   rw[L3,xl B acc (step C s),L3];congr 1;unfold step;by_cases h:s∈C
   . rw[JR h];have h2:s∈C.foldl step acc:=uy C acc s h;have h2':s∈List.foldl (λacc s=>if s∈acc then acc else acc++[s]) acc C:=h2;rw[JR h2']
   . rw[JI h,K0];rfl
def HX (A B C:List Str):onceL (A++onceL B++C)=onceL (A++B++C):=by unfold onceL;rw[K0,K0,K0,K0];have e:=xl B (A.foldl step []) [];rw[e];rfl
def EO (acc:List Str) (s:Str):(step acc s).length<=acc.length+1:=by
 unfold step;split
 . lia
 . simp
def HW (ss:List Str):(onceL ss).length<=ss.length:=by
 have key:∀(ss acc:List Str),(ss.foldl step acc).length<=acc.length+ss.length:=by
   intro ss
   induction ss with
   | nil=>intro acc; simp
   | cons s ss ih =>
     intro acc;have h1:=ih (step acc s);have h2:=EO acc s;rw[L3];simp only[Jo]
     lia
 have:=key ss [];unfold onceL;simpa using this
abbrev cY (ss:List Str):List (aI×V):=ss.map λs=>(Sum.inr s,V.bl true)
def BV (acc:List Str) (s:Str):ae (cY acc) (Sum.inr s) (.bl true)=cY (step acc s):=by
 unfold ae step;have e:((cY acc).any λkv=>decide (kv.1=(Sum.inr s:aI)))=decide (s∈acc):=by
   unfold cY;rw[List.any_map];rw[K8,List.any_eq_true];simp only[Function.comp,K1];constructor
   . rintro ⟨x,hx,h⟩;have:x=s:=Sum.inr.inj h;rw[<- this];exact hx
   . intro h;show#[s,h,rfl]
 rw[e];by_cases h:s∈acc
 . rw[JG h,JR rfl,JR h];unfold cY;rw[K7];apply List.map_congr_left;intro x _;show(if(Sum.inr x:aI)=Sum.inr s then((Sum.inr x:aI),V.bl true) else(Sum.inr x,V.bl true))=_;split <;> rfl
 . rw[JP h,JI #[],JI h];unfold cY;rw[JL];rfl
def tV:∀(ss acc:List Str),(cY ss).foldl 0x2 (cY acc)=cY (ss.foldl step acc)
 | [],acc=>rfl
 | s::ss,acc=>by show(cY ss).foldl _ (ae (cY acc) (Sum.inr s) (.bl true))=_;rw[BV];exact tV ss (step acc s)
def Gd (ss:List Str):(cY ss).foldl 0x2 []=cY (onceL ss):=tV ss []
def FO (ss:List Str):((cY ss).map λkv=>kV kv.1)=ss.map V.str:=by unfold cY;rw[K7];rfl
def sqT_lst {K:Md} {H:Hp} {a q:Mc} {xs l l':List V} (h:aD K H a xs) (hq:H q=⇑(.lst l)):aD K (upd H q (.lst l')) a xs:=by
 rcases h with(h|⟨o,h⟩)|h
 . exact .inl (.inl (by rw[am (fq h hq 0xB)]; exact h))
 . exact .inl (.inr #[o,by rw[am (fq h hq 0xB)]; exact h])
 . exact .inr h
abbrev Nm (s:Str):Prop:=s.length<=1000/\PyData.strOk s=true
end K12
namespace K12
open PySem L2 PySem.W PyProof.Rows
inductive RowS (K:W.Frag) (H:Hp):List V->Option Str->List V->Prop
 | copy (x:Str) (a:V):RowS K H [.str "copy",.str x,a] ⇑x [a]
 | op (x s:Str) (a b:V):RowS K H [.str "op",.str x,.str s,a,b] ⇑x [a,b]
 | new (x:Str):RowS K H [.str "new",.str x] ⇑x []
 | get (x:Str) (a:V) (f:Str):RowS K H [.str "get",.str x,a,.str f] ⇑x [a]
 | put (a:V) (f:Str) (b:V):RowS K H [.str "put",a,.str f,b] none [a,b]
 | call (x f:Str) (p:Addr) (as:List V):aD K H p as->RowS K H [.str "call",.str x,.str f,↥p] ⇑x as
 | out (a:V):RowS K H [.str "out",a] none [a]
 | back (a:V):RowS K H [.str "back",a] none [a]
 | ifs (a:V):RowS K H [.str "if",a] none [a]
 | whl (a:V):RowS K H [.str "while",a] none [a]
 | els:RowS K H [.str "else"] none []
 | fin:RowS K H [.str "end"] none []
def RowS.mono {K:Md} {H H':Hp} {xs:List V} {g:JK Str} {as:List V} (h:RowS K H xs g as) (e:aA H H'):RowS K H' xs g as:=by
 cases h with
 | call x f p as hp=>exact .call x f p as (e<*hp)
 | copy x a=>exact .copy x a
 | op x s a b=>exact .op x s a b
 | new x=>exact .new x
 | get x a f=>exact .get x a f
 | put a f b=>exact .put a f b
 | out a=>exact .out a
 | back a=>exact .back a
 | ifs a=>exact .ifs a
 | whl a=>exact .whl a
 | els=>exact .els
 | fin=>exact .fin
abbrev tabl:List (Str×List V):=[("copy",[.int 2]),("op",[.int 3,.int 4]),("new",[]),("get",[.int 2]),("put",[.int 1,.int 3]),("out",[.int 1]),("back",[.int 1]),("if",[.int 1]),("while",[.int 1]),("else",[]),("end",[])]
abbrev giving:List Str:=["copy","op","new","get","call"]
def CN {K:Md} {H:Hp} {xs:List V} {g:JK Str} {as:List V} (h:RowS K H xs g as):∃kd:Str,ay xs 0=⇑(.str kd) /\
   ((kd="call"/\∃p,ay xs 3=⇑↥p/\aD K H p as)\/(kd≠"call"/\∃pl:List Int,KTD.datumAt kd tabl=⇑(pl.map V.int)/\pl.length=as.length/\∀(i:Nat) (a:V),as[i]?=⇑a->∃p,pl[i]?=⇑p/\ay xs p=⇑a)):=by
 cases h with
 | call x f p as hp=>show#["call",rfl,.inl #[rfl,p,rfl,hp]]
 | copy x a=>show#["copy",rfl,.inr #[by decide +kernel,[2],by decide +kernel,rfl,λi a' e=>by match i,e with|0,e=>exact⟨2,rfl,e⟩]]
 | op x s a b=>show#["op",rfl,.inr #[by decide +kernel,[3,4],by decide +kernel,rfl,λi a' e=>by match i,e with|0,e=>exact⟨3,rfl,e⟩|1,e=>exact⟨4,rfl,e⟩]]
 | new x=>show#["new",rfl,.inr #[by decide +kernel,[],by decide +kernel,rfl,λi a' e=>by simp at e]]
 | get x a f=>show#["get",rfl,.inr #[by decide +kernel,[2],by decide +kernel,rfl,λi a' e=>by match i,e with|0,e=>exact⟨2,rfl,e⟩]]
 | put a f b=>show#["put",rfl,.inr #[by decide +kernel,[1,3],by decide +kernel,rfl,λi a' e=>by match i,e with|0,e=>exact⟨1,rfl,e⟩|1,e=>exact⟨3,rfl,e⟩]]
 | out a=>show#["out",rfl,.inr #[by decide +kernel,[1],by decide +kernel,rfl,λi a' e=>by match i,e with|0,e=>exact⟨1,rfl,e⟩]]
 | back a=>show#["back",rfl,.inr #[by decide +kernel,[1],by decide +kernel,rfl,λi a' e=>by match i,e with|0,e=>exact⟨1,rfl,e⟩]]
 | ifs a=>show#["if",rfl,.inr #[by decide +kernel,[1],by decide +kernel,rfl,λi a' e=>by match i,e with|0,e=>exact⟨1,rfl,e⟩]]
 | whl a=>show#["while",rfl,.inr #[by decide +kernel,[1],by decide +kernel,rfl,λi a' e=>by match i,e with|0,e=>exact⟨1,rfl,e⟩]]
 | els=>show#["else",rfl,.inr #[by decide +kernel,[],by decide +kernel,rfl,λi a' e=>by simp at e]]
 | fin=>show#["end",rfl,.inr #[by decide +kernel,[],by decide +kernel,rfl,λi a' e=>by simp at e]]
abbrev xv:JK Str->V
 | some x=>.str x
 | none=>.non
def F8 {K:Md} {H:Hp} {xs:List V} {g:JK Str} {as:List V} (h:RowS K H xs g as):∃kd:Str,ay xs 0=⇑(.str kd) /\
   ((∃x,g=⇑x/\fQ (.str kd) (giving.map V.str)=true/\ay xs 1=⇑(.str x))\/(g=none/\fQ (.str kd) (giving.map V.str)=false)):=by
 cases h with
 | call x f p as hp=>show#["call",rfl,.inl #[x,rfl,by decide +kernel,rfl]]
 | copy x a=>show#["copy",rfl,.inl #[x,rfl,by decide +kernel,rfl]]
 | op x s a b=>show#["op",rfl,.inl #[x,rfl,by decide +kernel,rfl]]
 | new x=>show#["new",rfl,.inl #[x,rfl,by decide +kernel,rfl]]
 | get x a f=>show#["get",rfl,.inl #[x,rfl,by decide +kernel,rfl]]
 | put a f b=>show#["put",rfl,.inr #[rfl,by decide +kernel]]
 | out a=>show#["out",rfl,.inr #[rfl,by decide +kernel]]
 | back a=>show#["back",rfl,.inr #[rfl,by decide +kernel]]
 | ifs a=>show#["if",rfl,.inr #[rfl,by decide +kernel]]
 | whl a=>show#["while",rfl,.inr #[rfl,by decide +kernel]]
 | els=>show#["else",rfl,.inr #[rfl,by decide +kernel]]
 | fin=>show#["end",rfl,.inr #[rfl,by decide +kernel]]
def IZ:(giving.map V.str).all eI=true:=by decide +kernel
abbrev Atom (v:V):Prop:=(∃s,v=.str s/\Nm s)\/∃i,v=.int i
structure RowD where
 r:Addr
 e:Addr
 a:Addr
 gx:Option Str
 as:List V
structure RowAt (K:W.Frag) (H:Hp) (d:RowD):Prop where
 row:∃xs,aD K H d.r xs/\RowS K H xs d.gx d.as
 ats:∀v∈d.as,Atom v
 len:d.as.length<=10
 nm:∀x,d.gx=⇑x->Nm x
def RowAt.mono {K:Md} {H H':Hp} {d:RowD} (h:RowAt K H d) (e:aA H H'):RowAt K H' d :=
 #[by let#[xs,h1,h2]:=h.row; show#[xs,e<*h1,h2*>e],h.ats,h.len,h.nm]
structure FunAt (K:W.Frag) (H:Hp) (f:Addr) (ps:List Str) (ds:List RowD):Prop where
 fn:∃n b p r,aD K H f [n,b,↥p,↥r]/\aD K H p (ps.map V.str)/\aD K H r (ds.map λd=>V.ref d.r)
 rows:∀d∈ds,RowAt K H d
 pn:∀s∈ps,Nm s
 pl:ps.length<=100
 dl:ds.length<=100
def FunAt.mono {K:Md} {H H':Hp} {f:Mc} {ps:List Str} {ds:List RowD} (h:FunAt K H f ps ds) (e:aA H H'):FunAt K H' f ps ds :=
 #[by let#[n,b,p,r,h1,h2,h3]:=h.fn; show#[n,b,p,r,e<*h1,e<*h2,e<*h3],λd hd=>(h.rows d hd)*>e,h.pn,h.pl,h.dl]
abbrev rowStrs (d:RowD):List Str:=d.gx.toList++strsOf d.as
abbrev allOf (ps:List Str) (ds:List RowD):List Str:=ps++ds.flatMap rowStrs
def pH (as:List V):(strsOf as).length<=as.length:=List.length_filterMap_le _ _
end K12
namespace K12
open PySem L2
section
variable {P:Program} {w:World} {K:Md} {mg:Str->JK Ma} {base:Heap}
abbrev Gives (H:Hp) (Q:VK) (vs:List V):Prop:=∀l H',aA H H'->H l=none->H' l=⇑(.lst vs)->Q ↥l H'
abbrev sp_gives (K:Md):Sp:=λvs H Q _=>∃(r:Mc) (xs:List V) (g:JK Str) (as:List V),vs=[↥r]/\aD K H r xs/\RowS K H xs g as/\Q (xv g) H
abbrev sp_atoms_of (K:Md):Sp:=λvs H Q _=>∃(r:Mc) (xs:List V) (g:JK Str) (as:List V),vs=[↥r]/\aD K H r xs/\RowS K H xs g as/\as.length<=10/\Gives H Q as
abbrev sp_each_once (K:Md):Sp:=λvs H Q _=>∃(p:Mc) (ss:List Str),vs=[↥p]/\aE K H p (ss.map V.str)/\ss.length<=5000/\Gives H Q ((onceL ss).map V.str)
abbrev sp_reads (K:Md):Sp:=λvs H Q _=>∃(r:Mc) (xs:List V) (g:JK Str) (as:List V),vs=[↥r]/\aD K H r xs/\RowS K H xs g as/\as.length<=10/\(∀v∈as,Atom v)/\Gives H Q ((onceL (strsOf as)).map V.str)
abbrev sp_names_of (K:Md):Sp:=λvs H Q _=>∃(f:Mc) (ps:List Str) (ds:List RowD),vs=[↥f]/\FunAt K H f ps ds/\Gives H Q ((onceL (allOf ps ds)).map V.str)
abbrev Gf (K:Md):List V->Hp->VK->Prop:=λxs H Q=>∃x c t b,xs=[x,.ty c]/\TyOf K H x t/\W.kitOne K t (.type c)=⇑b/\Q (.bl b) H
def bt {n:Nat} (h:n<1000000):n<=sizeLine:=by
 have:(1000000:Nat)<sizeLine:=by decide
 lia
def lt_line' {n:Nat} (h:n<1000000):n<sizeLine:=by
 have:(1000000:Nat)<sizeLine:=by decide
 lia
def xJ {fs P G B:List Str} (h:onceL fs=onceL P):onceL (fs++G++onceL B)=onceL (P++(G++B)):=by have e:=HX (fs++G) B [];rw[K5,K5] at e;rw[e,Jn];unfold onceL at h ⊢;rw[K0,h,<- K0]
abbrev lets:Str:="abcdefghijklmnopqrstuvwxyz"
def lets_ok:PyData.strOk lets=true:=by decide +kernel
end
end K12
namespace K13
open PySem L2
abbrev isO (s:Str):Bool:=decide (s="if") || decide (s="while")
abbrev isE (s:Str):Bool:=decide (s="else") || decide (s="end")
abbrev push (st:List Nat) (i:Nat) (s:Str):List Nat:=if isO s=true then i::st else if s="end" then st.tail else st
abbrev kd (ks:List Str) (i:Nat):Str:=ks.getD i ""
abbrev stk (ks:List Str):Nat->List Nat
 | 0=>[]
 | i+1=>push (stk ks i) i (kd ks i)
def GV (ks:List Str) (i:Nat):stk ks (i+1)=push (stk ks i) i (kd ks i):=rfl
def EQ {s:Str} (h:isO s=true):¬ s="end":=by intro e;subst e;revert h;decide +kernel
def GX {s:Str} (h:isO s=true):¬ s="else":=by intro e;subst e;revert h;decide +kernel
def HS:isO ("end":Str)=false:=by decide +kernel
structure Wf (ks:List Str):Prop where
 open_:∀i,i<ks.length->isE (kd ks i)=true->stk ks i≠[]
 els:∀i b r,i<ks.length->kd ks i="else"->stk ks i=b::r->kd ks b="if"
 shut:stk ks ks.length=[]
 last:∀i,i+1=ks.length->kd ks i="back"
 pos:0<ks.length
abbrev At (ks:List Str) (b j d:Nat):Prop:=∃pre,stk ks j=pre++b::stk ks b/\pre.length+1=d
abbrev cU (ks:List Str) (b e:Nat):Prop:=b<e/\e<ks.length/\kd ks e="end"/\stk ks e=b::stk ks b/\∀j,b<j->j<=e->∃d,At ks b j d
variable {ks:List Str}
def F4 {b e e':Nat} (h:cU ks b e) (h':cU ks b e'):e=e':=by
 have key:∀{e e':Nat},cU ks b e->cU ks b e'->¬ e<e':=by
   intro e e' h h' hlt;let#[h1,h2,h3,h4,h5]:=h;let#[d,pre,q,_]:=h'.2.2.2.2 (e+1) ∅ hlt;rw[GV] at q;unfold push at q;rw[h3,JI (by rw[HS]; decide),JR rfl,h4] at q;have:(stk ks b).length=(pre++b::stk ks b).length:=by rw[<- q]; rfl
   simp at this
   lia
 have a:=key h h';have b:=key h' h
 lia
abbrev Hit (ks:List Str) (b k:Nat):Prop:=isE (kd ks k)=true/\(stk ks k).head?=⇑b
abbrev sL (ks:List Str) (b f:Nat):Prop:=f<ks.length/\Hit ks b f/\∀k,k<f->¬ Hit ks b k
def EI {b f f':Nat} (h:sL ks b f) (h':sL ks b f'):f=f':=by
 rcases Nat.lt_trichotomy f f' with z|z|z
 . exact absurd h.2.1 (h'.2.2 f z)
 . exact z
 . exact absurd h'.2.1 (h.2.2 f' z)
inductive Beh (ks:List Str):Nat->Nat->Prop
 | els {k b e r:Nat}:kd ks (k+1)="else"->(stk ks (k+1)).head?=⇑b->cU ks b e->Beh ks e r->Beh ks k r
 | whl {k b:Nat}:kd ks (k+1)="end"->(stk ks (k+1)).head?=⇑b->kd ks b="while"->Beh ks k b
 | fin {k b r:Nat}:kd ks (k+1)="end"->(stk ks (k+1)).head?=⇑b->¬ kd ks b="while"->Beh ks (k+1) r->Beh ks k r
 | oth {k:Nat}:¬ kd ks (k+1)="else"->¬ kd ks (k+1)="end"->Beh ks k (k+1)
def mx:¬ (("else":Str)="end"):=by decide +kernel
def Beh.uniq {k r:Nat} (h:Beh ks k r):∀{r':Nat},Beh ks k r'->r=r':=by
 induction h with
 | els h1 h2 h3 h4 ih =>
   intro r' h';cases h' with
   | els g1 g2 g3 g4 =>
     have hb:=Option.some.inj (h2.symm\g2);subst hb;have he:=F4 h3 g3;subst he;exact ih g4
   | whl g1 _ _=>exact absurd (h1.symm\g1) mx
   | fin g1 _ _ _=>exact absurd (h1.symm\g1) mx
   | oth g1 _=>exact absurd h1 g1
 | whl h1 h2 h3 =>
   intro r' h';cases h' with
   | els g1 _ _ _=>exact absurd (g1.symm\h1) mx
   | whl g1 g2 g3=>exact Option.some.inj (h2.symm\g2)
   | fin g1 g2 g3 _ =>
     have hb:=Option.some.inj (h2.symm\g2);subst hb;exact absurd h3 g3
   | oth _ g2=>exact absurd h1 g2
 | fin h1 h2 h3 h4 ih =>
   intro r' h';cases h' with
   | els g1 _ _ _=>exact absurd (g1.symm\h1) mx
   | whl g1 g2 g3 =>
     have hb:=Option.some.inj (h2.symm\g2);subst hb;exact absurd g3 h3
   | fin g1 g2 g3 g4=>exact ih g4
   | oth _ g2=>exact absurd h1 g2
 | oth h1 h2 =>
   intro r' h';cases h' with
   | els g1 _ _ _=>exact absurd g1 h1
   | whl g1 _ _=>exact absurd g1 h2
   | fin g1 _ _ _=>exact absurd g1 h2
   | oth _ _=>rfl
def u6 {s:Str} (h:isO s=true):¬ isE s=true:=by unfold isE;rw[JP (GX h),JP (EQ h)];decide
inductive Due (ks:List Str):Nat->Option (List Nat)->Prop
 | no {k:Nat}:isE (kd ks k)=true->Due ks k none
 | back {k:Nat}:kd ks k="back"->Due ks k ⇑[]
 | two {k f r1 r2:Nat}:isO (kd ks k)=true->sL ks k f->Beh ks k r1->Beh ks f r2->Due ks k ⇑[r1,r2]
 | one {k r:Nat}:¬ isE (kd ks k)=true->¬ kd ks k="back"->¬ isO (kd ks k)=true->Beh ks k r->Due ks k ⇑[r]
def yB:¬ isE ("back":Str)=true:=by decide +kernel
def wg:¬ isO ("back":Str)=true:=by decide +kernel
def Due.uniq {ks:List Str} {k:Nat} {o o':JK (List Nat)} (h:Due ks k o) (h':Due ks k o'):o=o':=by
 cases h with
 | no h =>
   cases h' with
   | no _=>rfl
   | back g=>rw[g] at h; exact absurd h yB
   | two g _ _ _=>exact absurd h (u6 g)
   | one g _ _ _=>exact absurd h g
 | back h =>
   cases h' with
   | no g=>rw[h] at g; exact absurd g yB
   | back _=>rfl
   | two g _ _ _=>rw[h] at g; exact absurd g wg
   | one _ g _ _=>exact absurd h g
 | two h1 h2 h3 h4 =>
   cases h' with
   | no g=>exact absurd g (u6 h1)
   | back g=>rw[g] at h1; exact absurd h1 wg
   | two g1 g2 g3 g4 =>
     have:=EI h2 g2;subst this;rw[h3.uniq g3,h4.uniq g4]
   | one _ _ g _=>exact absurd h1 g
 | one h1 h2 h3 h4 =>
   cases h' with
   | no g=>exact absurd g h1
   | back g=>exact absurd g h2
   | two g _ _ _=>exact absurd g h3
   | one _ _ _ g=>rw[h4.uniq g]
def GG (ks ys:List Str) (i:Nat):kd (ks++ys) (ks.length+i)=kd ys i:=by unfold kd;rw[KU,KU,Jf (Nat.le_add_right _ _),Nat.add_sub_cancel_left]
def kd_last (ks:List Str) (x:Str):kd (ks++[x]) ks.length=x:=by have:=GG ks [x] 0;rw[Nat.add_zero] at this;rw[this];rfl
structure RowsAt (K:W.Frag) (H:Hp) (a:Addr) (ks:List Str):Prop where
 ex:∃rs:List Addr,aD K H a (rs.map V.ref)/\rs.length=ks.length/\∀i r,rs[i]?=⇑r->∃rest,aD K H r (V.str (kd ks i)::rest)
variable {H:Hp}
def RowsAt.mono {K:Md} {H':Hp}{a:Mc} (h:RowsAt K H a ks) (e:aA H H'):RowsAt K H' a ks :=
 #[by let#[rs,h1,h2,h3]:=h.ex; show#[rs,e<*h1,h2,λi r q=>by let#[rest,z]:=h3 i r q; show#[rest,e<*z]]]
def at0 {x:V} {r:List V}:ay (x::r) 0=⇑x:=by unfold ay cT;rw[JR #[],JR 0x6];rfl
def ixk {K:Md} {Q:VK} {a:Mc} {i:Int} (h:RowsAt K H a ks) (h0:0<=i) (h1:i<ks.length) (q:Q (.str (kd ks i.toNat)) H):qP K ↥a (.int i) H λx H1=>qP K x (.int 0) H1 Q:=by
 let#[rs,e1,e2,e3]:=h.ex;have hi:i.toNat<rs.length:=by lia
 let#[rest,hr]:=e3 i.toNat rs[i.toNat] (by simp [hi]);show#[a,_,i,.ref rs[i.toNat],7,e1,?_,rs[i.toNat],_,(0),11,hr,at0,q];have e:ay (rs.map V.ref) i=⇑(V.ref rs[i.toNat]):=by unfold ay cT;rw[JR h0,JR (by rw[JE]; lia),Option.bind_some,JS];simp [hi]
 exact e
def inO (s:Str):fQ (.str s) [V.str "if",V.str "while"]=isO s:=by show((("if":Str)==s) || ((("while":Str)==s) || false))=isO s;unfold isO;rw[M0];congr 1 <;> (rw[K8,M8,K1]; exact eq_comm)
def inE (s:Str):fQ (.str s) [V.str "else",V.str "end"]=isE s:=by show((("else":Str)==s) || ((("end":Str)==s) || false))=isE s;unfold isE;rw[M0];congr 1 <;> (rw[K8,M8,K1]; exact eq_comm)
def fA:0<=sizeLine:=by decide
def cB:1<=sizeLine:=by decide
def aZ:2<=sizeLine:=by decide
def lt_line' {n:Nat} (h:n<1000000):n<sizeLine:=by
 have:(1000000:Nat)<sizeLine:=by decide
 lia
def tN {K:Md} {a q:Mc} {xs:List V} {kvs:List (aI×V)} {o:HO} (h:aD K H a xs) (hq:H q=⇑(.dK kvs)):aD K (upd H q o) a xs:=by
 rcases h with(h|⟨o,h⟩)|h
 . exact .inl (.inl (by rw[am (fq h hq 0xB)]; exact h))
 . exact .inl (.inr #[o,by rw[am (fq h hq 0xB)]; exact h])
 . exact .inr h
def RowsAt.frz {K:Md} {H:Hp} {a q:Mc} {ks:List Str} {kvs:List (aI×V)} {o:HO} (h:RowsAt K H a ks) (hq:H q=⇑(.dK kvs)):RowsAt K (upd H q o) a ks :=
 #[by let#[rs,h1,h2,h3]:=h.ex; show#[rs,tN h1 hq,h2,λi r z=>by let#[rest,y]:=h3 i r z; show#[rest,tN y hq]]]
abbrev vD (n:Nat):List V:=(List.replicate n [V.non]).flatten
def Eb (n:Nat):(vD n).length=n:=by unfold vD; rw[vC]; simp
abbrev natsV (l:List Nat):List V:=l.map λ(n:Nat)=>V.int (n:Int)
abbrev gM (H:Hp) (v:V):JK (List Nat)->Prop
 | none=>v=.non
 | some l=>∃p,v=↥p/\H p=⇑(.tup (natsV l))
def gM.mono {H':Hp}{v:V} {o:JK (List Nat)} (h:gM H v o) (e:aA H H'):gM H' v o:=by
 cases o with
 | none=>exact h
 | some l=>let#[p,h1,h2]:=h; show#[p,h1,e _ _ h2]
def gM.lst {H:Hp} {q:Mc} {l l':List V} {v:V} {o:JK (List Nat)} (h:gM H v o) (hq:H q=⇑(.lst l)):gM (upd H q (.lst l')) v o:=by
 cases o with
 | none=>exact h
 | some l=>let#[p,h1,h2]:=h; show#[p,h1,by rw[am (fq h2 hq 0xB)]; exact h2]
abbrev FoundN (H:Hp) (l:Mc) (ks:List Str) (i:Nat):Prop:=∃vs:List V,H l=⇑(.lst vs)/\vs.length=i/\∀k v,vs[k]?=⇑v->∃o,Due ks k o/\gM H v o
def FoundN.mono {H H':Hp} {l:Mc} {ks:List Str} {i:Nat} (h:FoundN H l ks i) (e:aA H H'):FoundN H' l ks i :=
 by let#[vs,h1,h2,h3]:=h; show#[vs,e _ _ h1,h2,λk v q=>by let#[o,d,z]:=h3 k v q; show#[o,d,z*>e]]
def FoundN.push {l:Mc} {i:Nat} {vs:List V} {v:V} {o:JK (List Nat)} (h1:H l=⇑(.lst vs)) (h2:vs.length=i) (h3:∀k v,vs[k]?=⇑v->∃o,Due ks k o/\gM H v o) (hd:Due ks i o) (hv:gM H v o):FoundN (upd H l (.lst (vs++[v]))) l ks (i+1):=by
 show#[_,aG,by rw[JF,h2]; rfl,λk v' q=>?_];rcases Nat.lt_or_ge k vs.length with z|z
 . rw[KM z] at q;let#[o',d,y]:=h3 k v' q;show#[o',d,y.lst h1]
 . rw[Jf z] at q;have hk:k - vs.length=0:=by
     rcases Nat.eq_zero_or_pos (k - vs.length) with y|y
     . exact y
     . rw[Ku (by simp; lia)] at q;cases q
   rw[hk] at q;have hv':v=v':=↑q
   subst hv';have:k=i:=by lia
   subst this;show#[o,hd,hv.lst h1]
section
variable {P:Program} {w:World} {K:Md} {mg:Str->JK Ma} {base:Heap}
def bt {n:Nat} (h:n<1000000):n<=sizeLine:=by
 have:(1000000:Nat)<sizeLine:=by decide
 lia
end
end K13
namespace Fl
open PySem L2 Gx
structure Rw where
 r:Addr
 k:Str
 c:Str
structure Fd where
 name:Str
 fa:Addr
 ra:Addr
 rs:List Rw
abbrev jm (K:Md) (H:Hp) (w:Rw):Prop:=∃rest,aD K H w.r (V.str w.k::rest)/\(w.k="call"->∃x y,rest=[x,.str w.c,y])
variable {H:Hp}
def jm.mono {K:Md} {H':Hp}{w:Rw} (e:aA H H') (h:jm K H w):jm K H' w:=by let#[rest,h1,h2]:=h; show#[rest,e<*h1,h2]
structure FnAt (K:W.Frag) (H:Hp) (f:Fd):Prop where
 fn:∃fo pa,aD K H f.fa [.str f.name,fo,↥pa,↥f.ra]
 rw_:aD K H f.ra (f.rs.map λw=>V.ref w.r)
 rk:∀w∈f.rs,jm K H w
 fu:∃ps ds,K12.FunAt K H f.fa ps ds
 wf:K13.Wf (f.rs.map (·.k))
 len:f.rs.length<=100
def FnAt.mono {K:Md} {H H':Hp} {f:Fd} (e:aA H H') (h:FnAt K H f):FnAt K H' f :=
 #[by let#[a,b,z]:=h.fn; show#[a,b,e<*z],e<*h.rw_,λw hw=>(h.rk w hw)*>e,by let#[a,b,z]:=h.fu; show#[a,b,z*>e],h.wf,h.len]
def FnAt.rows {K:Md} {f:Fd} (h:FnAt K H f):K13.RowsAt K H f.ra (f.rs.map (·.k)):=by
 show#[f.rs.map (·.r),by rw[K7]; exact h.rw_,by rw[JE,JE],λi r hr=>?_];rw[JS] at hr;cases e:f.rs[i]? with
 | none=>rw[e] at hr; cases hr
 | some w =>
   rw[e] at hr;cases hr;let#[rest,h1,_]:=h.rk w (JM e);show#[rest,?_];have:K13.kd (f.rs.map (·.k)) i=w.k:=by unfold K13.kd;rw[KU,JS,e];rfl
   rw[this];exact h1
structure FS (C:Addr) (H:Hp) (x dx:Addr) (fs:List (Str×V)) (d:Nat->Addr) (kv:Nat->List (aI×V)):Prop where
 ob:H x=⇑(.ins C dx fs)
 dc:∀j,j<6->H (d j)=⇑(.dK (kv j))
def FS.mono {C:Mc} {H':Hp}{x dx:Mc} {fs:List (Str×V)} {d:Nat->Mc} {kv:Nat->List (aI×V)} (e:aA H H') (h:FS C H x dx fs d kv):FS C H' x dx fs d kv:=#[e _ _ h.ob,λj hj=>e _ _ (h.dc j hj)]
def FS.put {C:Mc} {x dx:Mc} {fs:List (Str×V)} {d:Nat->Mc} {kv:Nat->List (aI×V)} (h:FS C H x dx fs d kv) (inj:∀i j,i<6->j<6->d i=d j->i=j) (j:Nat) (hj:j<6) (k':List (aI×V)):FS C (upd H (d j) (.dK k')) x dx fs d (λi=>if i=j then k' else kv i):=by
 show#[?_,λi hi=>?_]
 . rw[am (fq h.ob (h.dc j hj) 0xB)]; exact h.ob
 . by_cases e:i=j
   . subst e;rw[aG,JR rfl]
   . rw[am (λz=>e (inj i j hi hj z)),JI e];exact h.dc i hi
abbrev eC (v:V) (d:Nat->Mc):List (Str×V):=aQ "ways_in" ↥(d 5) (aQ "names_in" ↥(d 4) (aQ "rows_of" ↥(d 3) (aQ "params_of" ↥(d 2) (aQ "folded_of" ↥(d 1) (aQ "number_of" ↥(d 0) (aQ "last" v []))))))
def EJ (v:V) (d:Nat->Mc):(eC v d).lookup ("number_of":Str)=⇑↥(d 0):=by unfold eC;rw[cg,JI 0x3,cg,JI 0x3,cg,JI 0x3,cg,JI 0x3,cg,JI 0x3,cg,JR rfl]
def Ar (v:V) (d:Nat->Mc):(eC v d).lookup ("folded_of":Str)=⇑↥(d 1):=by unfold eC;rw[cg,JI 0x3,cg,JI 0x3,cg,JI 0x3,cg,JI 0x3,cg,JR rfl]
def vf (v:V) (d:Nat->Mc):(eC v d).lookup ("params_of":Str)=⇑↥(d 2):=by unfold eC;rw[cg,JI 0x3,cg,JI 0x3,cg,JI 0x3,cg,JR rfl]
def tT (v:V) (d:Nat->Mc):(eC v d).lookup ("rows_of":Str)=⇑↥(d 3):=by unfold eC;rw[cg,JI 0x3,cg,JI 0x3,cg,JR rfl]
def xi (v:V) (d:Nat->Mc):(eC v d).lookup ("names_in":Str)=⇑↥(d 4):=by unfold eC;rw[cg,JI 0x3,cg,JR rfl]
def wM (v:V) (d:Nat->Mc):(eC v d).lookup ("ways_in":Str)=⇑↥(d 5):=by unfold eC;rw[cg,JR rfl]
abbrev dd (d0 d1 d2 d3 d4 d5:Mc):Nat->Mc
 | 0=>d0
 | 1=>d1
 | 2=>d2
 | 3=>d3
 | 4=>d4
 | _=>d5
def D8 {d0 d1 d2 d3 d4 d5:Mc} (h:[d0,d1,d2,d3,d4,d5].Nodup) (i j:Nat) (hi:i<6) (hj:j<6) (e:dd d0 d1 d2 d3 d4 d5 i=dd d0 d1 d2 d3 d4 d5 j):i=j:=by
 have g:∀k,k<6->[d0,d1,d2,d3,d4,d5][k]?=⇑(dd d0 d1 d2 d3 d4 d5 k):=λk hk=>by rcases k with _|_|_|_|_|_|k <;> first|rfl|lia
 exact(List.getElem?_inj hi h).mp ((g i hi)\((JW some e)\(g j hj).symm))
def bd {a b:Mc} {o:HO} (h:upd H a o b=none):b≠a/\H b=none:=by
 have hn:b≠a:=λz=>by rw[z,aG] at h; cases h
 rw[am hn] at h;show#[hn,h]
def bG {a b:Mc} {o o':HO} (h:H b=⇑o) (hn:b≠a):upd H a o' b=⇑o:=by rw[am hn]; exact h
def fI (f:Str) (v:V) (l:List (Str×V)) (k:Nat) (h:l.length<=k):(aQ f v l).length<=k+1:=Jj (sf f v l) ∅
def vN {α:Type} {l:List α} {f:α->V} {r:Int} {a:α} (h0:0<=r) (h:l[r.toNat]?=⇑a):ay (l.map f) r=⇑(f a):=by let#[j,rfl]:=KP h0;refine bf ?_;rw[KA] at h;rw[JS,h];rfl
end Fl
namespace L2
open PySem
abbrev hl (H:Hp):Hp:=λb=>match H b with
 | some (.lst xs)=>⇑(.lst xs)
 | some (.tup xs)=>⇑(.tup xs)
 | _=>none
variable {H:Hp}
def rn :aA (hl H) H:=λb o h=>by
 unfold hl at h;split at h
 . rename_i e; rw[e]; exact h
 . rename_i e; rw[e]; exact h
 . cases h
def uW {b:Mc} {xs:List V} (h:H b=⇑(.lst xs)):hl H b=⇑(.lst xs):=by unfold hl; rw[h]
def Cw {b:Mc} {xs:List V} (h:H b=⇑(.tup xs)):hl H b=⇑(.tup xs):=by unfold hl; rw[h]
def aA.hl {H H':Hp} (e:aA H H'):aA (hl H) (hl H'):=λb o h=>by have h1:=rn _ _ h;have h2:=e _ _ h1;unfold L2.hl at h ⊢;rw[h1] at h;rw[h2];exact h
def J5 {a:Mc} {o:HO} (h:∀xs,H a≠⇑(.lst xs)/\H a≠⇑(.tup xs)) (ho:∀xs,o≠.lst xs/\o≠.tup xs):hl (upd H a o)=hl H:=by
 funext b;unfold hl upd;by_cases hb:b=a
 . subst hb;rw[JR rfl];cases o with
   | lst xs=>exact absurd rfl (ho xs).1
   | tup xs=>exact absurd rfl (ho xs).2
   | _ =>
     cases e:H b with
     | none=>rfl
     | some u=>cases u with
       | lst xs=>exact absurd e (h xs).1
       | tup xs=>exact absurd e (h xs).2
       | _=>rfl
 . rw[JI hb]
def jK {a:Mc} {kvs kvs':List (aI×V)} (h:H a=⇑(.dK kvs)):hl (upd H a (.dK kvs'))=hl H :=
 J5 (λxs=>#[(by rw[h]; intro z; cases z),(by rw[h]; intro z; cases z)]) λxs=>#[0xB,0xB]
end L2
namespace K13
open PySem L2
def FoundN.hl {H:Hp} {l:Mc} {ks:List Str} {i:Nat} (h:FoundN H l ks i):FoundN (L2.hl H) l ks i:=by
 let#[vs,h1,h2,h3]:=h;show#[vs,uW h1,h2,λk v q=>?_];let#[o,d,z]:=h3 k v q;show#[o,d,?_];cases o with
 | none=>exact z
 | some l=>let#[p,z1,z2]:=z; show#[p,z1,Cw z2]
end K13
namespace F2
open PySem L2 Gx Fl
structure Fd where
 name:Str
 fo:V
 fa:Addr
 pa:Addr
 ra:Addr
 ps:List Str
 rs:List Rw
 ds:List K12.RowD
structure FnAt (K:W.Frag) (H:Hp) (f:Fd):Prop where
 fn:aD K H f.fa [.str f.name,f.fo,↥f.pa,↥f.ra]
 pr:aD K H f.pa (f.ps.map V.str)
 rw_:aD K H f.ra (f.rs.map λw=>V.ref w.r)
 rk:∀w∈f.rs,jm K H w
 fu:K12.FunAt K H f.fa f.ps f.ds
 wf:K13.Wf (f.rs.map (·.k))
 len:f.rs.length<=100
def FnAt.mono {K:Md} {H H':Hp} {f:Fd} (e:aA H H') (h:FnAt K H f):FnAt K H' f :=
 #[e<*h.fn,e<*h.pr,e<*h.rw_,λw hw=>(h.rk w hw)*>e,h.fu*>e,h.wf,h.len]
abbrev toF (f:Fd):Fl.Fd:=#[f.name,f.fa,f.ra,f.rs]
def FnAt.old {K:Md} {H:Hp} {f:Fd} (h:FnAt K H f):Fl.FnAt K H (toF f):=#[#[4,h.fn],h.rw_,h.rk,#[4,h.fu],h.wf,h.len]
abbrev nms (f:Fd):List Str:=K12.onceL (K12.allOf f.ps f.ds)
abbrev kds (f:Fd):List Str:=f.rs.map (·.k)
abbrev kD (g:Nat->Fd->V) (fns:List Fd):List (aI×V):=fns.mapIdx λi f=>(Sum.inr f.name,g i f)
def Ff (g:Nat->Fd->V) (fns:List Fd) (f:Fd):kD g (fns++[f])=kD g fns++[(Sum.inr f.name,g fns.length f)]:=by unfold kD;rw[List.mapIdx_append];simp
variable {fns:List Fd}
def Ii {g g':Nat->Fd->V} (h:∀i f,i<fns.length->g i f=g' i f):kD g fns=kD g' fns:=by unfold kD;refine List.ext_getElem 0x6 λi h1 h2=>?_;simp only[List.getElem_mapIdx];rw[h i _ ↑h1]
def CV (g:Nat->Fd->V) {s:Str} (h:s ∉ fns.map (·.name)):bM (kD g fns) (Sum.inr s:aI)=none:=by
 unfold bM;rw[Option.map_eq_none_iff,List.find?_eq_none];intro kv hkv z;unfold kD at hkv;let#[i,hi,e]:=List.mem_mapIdx.mp hkv;subst e;have z:(Sum.inr fns[i].name:aI)=Sum.inr s:=↑z
 exact h (Jh.mpr #[fns[i],KL hi,Sum.inr.inj z])
def xx {f:Fd} {i:Nat} (h:fns[i]?=⇑f) (nd:(fns.map (·.name)).Nodup):f.name ∉ (fns.take i).map (·.name):=by
 intro z;let#[g,hg,e]:=Jh.mp z;let#[j,hj]:=Jp hg;have hji:j<i:=by
   have:=(JH.mp hj).1;rw[Jk] at this
   lia
 rw[LF hji] at hj;have h1:(fns.map (·.name))[i]?=⇑f.name:=by rw[JS,h]; rfl
 have h2:(fns.map (·.name))[j]?=⇑f.name:=by rw[JS,hj]; exact JW some e
 have:=(List.getElem?_inj (JH.mp h2).1 nd).mp (h2\h1.symm)
 lia
def jG {g g':Nat->Fd->V} {f:Fd} {i:Nat} {v:V} (h:fns[i]?=⇑f) (nd:(fns.map (·.name)).Nodup) (hg:∀j f,j<i->g j f=g' j f) (hv:v=g' i f):ae (kD g (fns.take i)) (Sum.inr f.name:aI) v=kD g' (fns.take (i+1)):=by
 have hi:i<fns.length:=(JH.mp h).1;have hl:(fns.take i).length=i:=by rw[Jk]; lia
 rw[x5 _ (CV g (xx h nd)),KE,h];show _=kD g' (fns.take i++[f]);rw[Ff,hl,<- hv,Ii (g:=g) (g':=g') λj f hj=>hg j f ∅]
def kD_at (g:Nat->Fd->V):∀{fns:List Fd} {i:Nat} {f:Fd},(fns.map (·.name)).Nodup->fns[i]?=⇑f->bM (kD g fns) (Sum.inr f.name:aI)=⇑(g i f):=by
 intro fns i f nd h;have hi:i<fns.length:=(JH.mp h).1;have key:∀k,i<k->k<=fns.length->bM (kD g (fns.take k)) (Sum.inr f.name:aI)=⇑(g i f):=by
   intro k
   induction k with
   | zero=>intro h0; exact absurd h0 (K9 _)
   | succ k ih =>
     intro hk hk';obtain⟨f',hf'⟩:∃f',fns[k]?=⇑f':=#[fns[k],JU ∅]
     rw[<- jG (g:=g) (g':=g) hf' nd (λ_ _ _=>rfl) rfl,valV_put];by_cases e:i=k
     . subst e;rw[h] at hf';cases hf';rw[JR rfl]
     . have hn:¬ (Sum.inr f.name:aI)=Sum.inr f'.name:=λz=>xx hf' nd (Jh.mpr #[f,JM (by rw[LF (show i<k by lia)]; exact h),Sum.inr.inj z]);rw[JI hn];exact ih ∅ ∅
 have:=key fns.length hi (JN _);rw[Jw] at this;exact this
structure FlowsAt (K:W.Frag) (C:Addr) (H:Hp) (x:Addr) (fns:List Fd):Prop where
 all:∀f∈fns,FnAt K H f
 nd:(fns.map (·.name)).Nodup
 ob:∃dx fz d kv,∃nl wl:Nat->Addr,fns[fns.length - 1]?=⇑fz/\FS C H x dx (eC (V.str fz.name) d) d kv/\kv 0=kD (λi _=>.int i) fns/\kv 1=kD (λ_ f=>f.fo) fns/\kv 2=kD (λ_ f=>↥f.pa) fns/\kv 3=kD (λ_ f=>↥f.ra) fns /\
   kv 4=kD (λi _=>↥(nl i)) fns/\kv 5=kD (λi _=>↥(wl i)) fns/\∀i f,fns[i]?=⇑f->H (nl i)=⇑(.lst ((nms f).map V.str))/\K13.FoundN H (wl i) (kds f) (kds f).length
def FlowsAt.mono {K:Md} {C:Mc} {H H':Hp} {x:Mc} {fns:List Fd} (e:aA H H') (h:FlowsAt K C H x fns):FlowsAt K C H' x fns:=by let#[dx,fz,d,kv,nl,wl,h0,h1,h2,h3,h4,h5,h6,h7,h8]:=h.ob;show#[λf hf=>(h.all f hf)*>e,h.nd,#[dx,fz,d,kv,nl,wl,h0,h1*>e,h2,h3,h4,h5,h6,h7,λi f hi=>#[e _ _ (h8 i f hi).1,(h8 i f hi).2.mono e]]]
end F2
namespace K21
open PySem L2
noncomputable abbrev wide:Int:=281474976710656
abbrev bw (s:Str) (a b:Int):Int:=if s="&" then Builtin.bitAnd a b else if s="|" then Builtin.bitOr a b else Builtin.bitXor a b
abbrev kr (s:Str) (x y:Int):Int:=if s="&" then x * y else if s="|" then x+y - x * y else(x+y)%2
def nP (x:Int):x%2=0\/x%2=1:=by lia
def Ca (s:Str) (a b:Int):0<=kr s (a%2) (b%2)/\kr s (a%2) (b%2)<=1:=by unfold kr;rcases nP a with h|h <;> rcases nP b with h' | h' <;> rw[h,h'] <;> (split; decide; split <;> decide)
def FT {x y:Int} (hx:0<=x) (hy:0<=y):Builtin.bitAnd x y=2 * Builtin.bitAnd (x / 2) (y / 2)+(x%2) * (y%2):=by
 let#[n,rfl]:=KP hx;let#[m,rfl]:=KP hy;rw[PyProof.Rows.bitAnd_pp hx hy,PyProof.Rows.bitAnd_pp ∅ ∅];have e1:(Int.ofNat n).toNat=n:=rfl;have e2:(Int.ofNat m).toNat=m:=rfl;have e3:((n:Int) / 2).toNat=n / 2:=by lia
 have e4:((m:Int) / 2).toNat=m / 2:=by lia
 have a1:((n &&& m) / 2)=(n / 2) &&& (m / 2):=Nat.and_div_two;have a2:(n &&& m)%2=(n%2) * (m%2):=by have h1:=Nat.and_mod_two_eq_one (a:=n) (b:=m);rcases M6 n with h|h <;> rcases M6 m with h' | h' <;> rw[h,h'] at h1 ⊢ <;> lia
 have a3:=Nat.div_add_mod (n &&& m) 2;show((n &&& m:Nat):Int)=_;rw[e3,e4,<- a1];have a4:((n:Int)%2) * ((m:Int)%2)=(((n%2) * (m%2):Nat):Int):=by rw[Int.natCast_mul];rfl
 show _=2 * (((n &&& m) / 2:Nat):Int)+((n:Int)%2) * ((m:Int)%2);rw[a4,<- a2]
 lia
def El (s:Str) {a b:Int} (ha:0<=a) (hb:0<=b):bw s a b=2 * bw s (a / 2) (b / 2)+kr s (a%2) (b%2):=by
 have h:=FT ha hb;unfold bw kr;split
 . exact h
 . split
   . rw[LU,LU,h]
     lia
   . have e:∀x y:Int,Builtin.bitXor x y=x+y - 2 * Builtin.bitAnd x y:=λx y=>by
       unfold Builtin.bitXor;rw[LU]
       lia
     rw[e,e,h];rcases nP a with p|p <;> rcases nP b with p' | p' <;> rw[p,p'] <;> lia
def AX (s:Str):bw s 0 0=0:=by
 unfold bw;split
 . rfl
 . split <;> rfl
def vy (s:Str):∀(n:Nat) {a b:Int},0<=a->0<=b->a<2 ^ n->b<2 ^ n->0<=bw s a b/\bw s a b<2 ^ n
 | 0,a,b,h1,h2,h3,h4=>by
   have e1:a=0:=by simp at h3; lia
   have e2:b=0:=by simp at h4; lia
   subst e1 e2;rw[AX];decide
 | n+1,a,b,h1,h2,h3,h4=>by
   rw[Int.pow_succ] at h3 h4 ⊢;have ih:=vy s n (a:=a / 2) (b:=b / 2) ∅ ∅ ∅ ∅;have st:=El s h1 h2;have bb:=Ca s a b
   lia
abbrev valOf (s:Str) (a b:Int):Int :=
 if s="+" then(a+b)%wide else if s="-" then(a - b)%wide else if s="*" then(a * b)%wide else if s="/" then(if b=0 then 0 else a / b)
 else if s="<" then(if a<b then 1 else 0) else if s="=" then(if a=b then 1 else 0) else bw s a b
def Dy (s:Str) {a b:Int} (ha:0<=a) (hb:0<=b) (ha':a<wide) (hb':b<wide):0<=valOf s a b/\valOf s a b<wide:=by
 have m:∀z:Int,0<=z%wide/\z%wide<wide:=λz=>#[L5 _ #[],Kr _ #[]]
 unfold valOf;split
 . exact m _
 split
 . exact m _
 split
 . exact m _
 split
 . split
   . decide
   . have h1:0<=a / b:=Int.ediv_nonneg ha hb;have h2:a / b<=a:=Int.ediv_le_self b ha
     lia
 split
 . split <;> decide
 split
 . split <;> decide
 exact vy s 48 ha hb ha' hb'
end K21
namespace Rk2
open PySem L2 K21
inductive Tr where
 | box (k:Int):Tr
 | num (v:Int):Tr
 | op (s:Str) (l r:Tr):Tr
 deriving DecidableEq
abbrev lvs:Tr->List (Bool×Int)
 | .box k=>[(true,k)]
 | .num v=>[(false,v)]
 | .op _ l r=>lvs l++lvs r
abbrev dp:Tr->Nat
 | .box _=>0
 | .num _=>0
 | .op _ l r=>max (dp l) (dp r)+1
abbrev RAt (H:Hp):Tr->V->Prop
 | .box k,v=>∃p,v=↥p/\H p=⇑(.tup [.str "box",.int k])
 | .num n,v=>∃p,v=↥p/\H p=⇑(.tup [.str "num",.int n])
 | .op s l r,v=>∃p x y,v=↥p/\H p=⇑(.tup [.str s,x,y])/\¬ s="box"/\¬ s="num"/\RAt H l x/\RAt H r y
def RAt.mono {H H':Hp} (e:aA H H'):∀{t:Tr} {v:V},RAt H t v->RAt H' t v
 | .box k,v,h=>by let#[p,h1,h2]:=h; show#[p,h1,e _ _ h2]
 | .num n,v,h=>by let#[p,h1,h2]:=h; show#[p,h1,e _ _ h2]
 | .op s l r,v,h=>by let#[p,x,y,h1,h2,h3,h4,h5,h6]:=h; show#[p,x,y,h1,e _ _ h2,h3,h4,RAt.mono e h5,RAt.mono e h6]
variable {H:Hp}
def sU {a q:Mc} {xs l:List V} {o:HO} (h:H a=⇑(.tup xs)) (hq:H q=⇑(.lst l)):(upd H q o) a=⇑(.tup xs):=by rw[am (fq h hq 0xB)];exact h
def RAt.lst {H:Hp} {q:Mc} {l:List V} {o:HO} (hq:H q=⇑(.lst l)):∀{t:Tr} {v:V},RAt H t v->RAt (upd H q o) t v
 | .box k,v,h=>by let#[p,h1,h2]:=h; show#[p,h1,sU h2 hq]
 | .num n,v,h=>by let#[p,h1,h2]:=h; show#[p,h1,sU h2 hq]
 | .op s l r,v,h=>by let#[p,x,y,h1,h2,h3,h4,h5,h6]:=h; show#[p,x,y,h1,sU h2 hq,h3,h4,RAt.lst hq h5,RAt.lst hq h6]
def RAt.upd {H:Hp} {q:Mc} {o o':HO} (hq:H q=⇑o') (hn:∀xs,o'≠.tup xs):∀{t:Tr} {v:V},RAt H t v->RAt (upd H q o) t v
 | .box k,v,h=>by let#[p,h1,h2]:=h; show#[p,h1,by rw[am (fq h2 hq (λz=>hn _ z.symm))]; exact h2]
 | .num n,v,h=>by let#[p,h1,h2]:=h; show#[p,h1,by rw[am (fq h2 hq (λz=>hn _ z.symm))]; exact h2]
 | .op s l r,v,h=>by let#[p,x,y,h1,h2,h3,h4,h5,h6]:=h; show#[p,x,y,h1,by rw[am (fq h2 hq (λz=>hn _ z.symm))]; exact h2,h3,h4,RAt.upd hq hn h5,RAt.upd hq hn h6]
abbrev Ps {α:Type} (R:α->V->Prop):List V->List α->Prop
 | [],[]=>True
 | v::us,t::ts=>R t v/\Ps R us ts
 | _,_=>False
variable {α:Type} {R R':α->V->Prop}
def Ps.imp (f:∀t v,R t v->R' t v):∀{us:List V} {ts:List α},Ps R us ts->Ps R' us ts
 | [],[],_=>trivial
 | v::us,t::ts,h=>#[f _ _ h.1,Ps.imp f h.2]
 | [],_::_,h=>h.elim
 | _::_,[],h=>h.elim
def Ps.len:∀{us:List V} {ts:List α},Ps R us ts->us.length=ts.length
 | [],[],_=>rfl
 | v::us,t::ts,h=>by rw[Jo,Jo,Ps.len h.2]
 | [],_::_,h=>h.elim
 | _::_,[],h=>h.elim
def Ps.app:∀{us us':List V} {ts ts':List α},Ps R us ts->Ps R us' ts'->Ps R (us++us') (ts++ts')
 | [],_,[],_,_,h=>h
 | v::us,_,t::ts,_,h,h'=>#[h.1,Ps.app h.2 h']
 | [],_,_::_,_,h,_=>h.elim
 | _::_,_,[],_,h,_=>h.elim
def Ps.at:∀{us:List V} {ts:List α} {n:Nat},Ps R us ts->n<ts.length->∃u t,us[n]?=⇑u/\ts[n]?=⇑t/\R t u
 | v::us,t::ts,0,h,_=>#[v,t,7,h.1]
 | v::us,t::ts,n+1,h,hn=>by let#[u,t',h1,h2,h3]:=Ps.at (n:=n) h.2 ↑hn;show#[u,t',by simpa using h1,by simpa using h2,h3]
 | [],[],_,_,hn=>absurd hn (K9 _)
 | [],_::_,_,h,_=>h.elim
 | _::_,[],_,h,_=>h.elim
def F' (c:Nat):¬ (#[(List.toArray [c])]:Str)="box"/\¬ (#[(List.toArray [c])]:Str)="num":=by
 show#[λz=>?_,λz=>?_]
 . have:=JW Str.length z;exact absurd this (by show ¬ (1=Str.length "box"); decide +kernel)
 . have:=JW Str.length z;exact absurd this (by show ¬ (1=Str.length "num"); decide +kernel)
abbrev lD (s:Str) (k:Int):PyData:=.tuple [.str s,.int k]
def pf {K:Md} {p:Mc} {s:Str} {k:Int} (h:aD K H p [.str s,.int k]):au K H (lD s k) ↥p:=by unfold lD au;show#[p,5,h,?_];unfold bF;show#[9,(by unfold au; rfl),?_];unfold bF;show#[9,(by unfold au; rfl),?_];unfold bF;rfl
def E6 (s s':Str) (k b:Int):PyData.eqv (lD s k) (lD s' b)=(decide (s=s')&&decide (k=b)):=by unfold lD PyData.eqv PyData.eqvAll;unfold PyData.eqvAll PyData.eqv;unfold PyData.eqvAll;rw[K8];simp
def RAt.head {tr:Tr} {v:V} (h:RAt H tr v):∃p hd rest,v=↥p/\H p=⇑(.tup (.str hd::rest))/\(hd="num"->∃k,tr=.num k/\rest=[.int k])/\(¬ hd="num"->∀k,tr≠.num k):=by
 cases tr with
 | box k =>
   let#[p,rfl,e]:=h;show#[p,9,e,λz=>absurd z 0x3,λ_ k z=>by cases z]
 | num k =>
   let#[p,rfl,e]:=h;show#[p,9,e,λ_=>#[k,7],λz=>absurd rfl z]
 | op s l r =>
   let#[p,x,y,rfl,e,n1,n2,_,_]:=h;show#[p,9,e,λz=>absurd z n2,λ_ k z=>by cases z]
abbrev tog (s:Str):Tr->Tr->Tr
 | .num x,.num y=>.num (valOf s x y)
 | a,b=>.op s a b
def tZ {s:Str} {a b:Tr} (h:(∀k,a≠.num k)\/∀k,b≠.num k):tog s a b=.op s a b:=by
 unfold tog;split
 . rcases h with h|h
   . exact absurd rfl (h _)
   . exact absurd rfl (h _)
 . rfl
abbrev okl (l:List (Bool×Int)):Prop:=∀v,(false,v)∈l->0<=v/\v<wide
def jc {v:Int} (h:okl (lvs (.num v))):0<=v/\v<wide:=h v JZ
def vq {Q:VK} {x y:V} (h:x=y) (q:Q y H):Q x H:=by subst h; exact q
def pw48:((2:Int) ^ (48:Int).toNat)=wide:=by decide
def pos48:(0:Int)<(2:Int) ^ (48:Int).toNat:=by decide
def aZ:2<=sizeLine:=by decide
def cn:3<=sizeLine:=by decide
def lt_line' {n:Nat} (h:n<1000000):n<sizeLine:=by
 have:(1000000:Nat)<sizeLine:=by decide
 omega
def at0 {x:V} {r:List V}:ay (x::r) 0=⇑x:=by unfold ay cT;rw[JR #[],JR 0x6];rfl
def Ea:PyData.strOk "box"=true:=by decide +kernel
def Ei:PyData.strOk "num"=true:=by decide +kernel
def vS:¬ (("num":Str)="box"):=by decide +kernel
def uS:¬ (("box":Str)="num"):=by decide +kernel
def Hz:((("+-*/<=&|^":Str).cps.toList.length:Nat):Int)=9:=by decide +kernel
def Ck:("+-*/<=&|^":Str).length<=sizeLine:=by decide +kernel
abbrev Sg (s:Str):Prop:=¬ s="box"/\¬ s="num"
def Ef {i:Int} (h0:0<=i) (h1:i<9):∃ch,ay ("+-*/<=&|^":Str).cps.toList i=⇑ch:=by let#[ch,hch,_]:=wn (xs:=("+-*/<=&|^":Str).cps.toList) (i:=i) h0 (by rw[Hz]; exact h1);show#[ch,hch]
def oF {a b:List (Bool×Int)} (h:okl (a++b)):okl a/\okl b:=#[λv hv=>h v (JV.mpr (.inl hv)),λv hv=>h v (JV.mpr (.inr hv))]
def no_dk {l:List (aI×V)}:∀xs,HO.dK l≠.tup xs:=λxs z=>by cases z
def putK_len (kvs:List (aI×V)) (k:aI) (v:V):(ae kvs k v).length<=kvs.length+1:=by
 unfold ae;split
 . rw[JE]; omega
 . rw[JF]; exact JN _
end Rk2
namespace Rk2
open PySem L2 K21
abbrev pt (g:Int->JK Tr):Tr->Tr
 | .num v=>.num v
 | .box k=>(g k).getD (.box k)
 | .op s l r=>tog s (pt g l) (pt g r)
abbrev NV (H:Hp) (kvs:List (aI×V)) (g:Int->JK Tr):Prop:=∀k,match g k with|none=>bM kvs (Sum.inl k:aI)=none|some t=>∃x,bM kvs (Sum.inl k:aI)=⇑x/\RAt H t x
def NV.no {H:Hp} {kvs:List (aI×V)} {g:Int->JK Tr} (h:NV H kvs g) {k:Int} (e:g k=none):bM kvs (Sum.inl k:aI)=none:=by have:=h k;rw[e] at this;exact this
def NV.yes {H:Hp} {kvs:List (aI×V)} {g:Int->JK Tr} (h:NV H kvs g) {k:Int} {t:Tr} (e:g k=⇑t):∃x,bM kvs (Sum.inl k:aI)=⇑x/\RAt H t x:=by have:=h k;rw[e] at this;exact this
def NV.of {H:Hp} {kvs:List (aI×V)} {g:Int->JK Tr} (h1:∀k,g k=none->bM kvs (Sum.inl k:aI)=none) (h2:∀k t,g k=⇑t->∃x,bM kvs (Sum.inl k:aI)=⇑x/\RAt H t x):NV H kvs g:=λk=>by
 cases e:g k with
 | none=>exact h1 k e
 | some t=>exact h2 k t e
def NV.mono {H H':Hp} {kvs:List (aI×V)} {g:Int->JK Tr} (h:NV H kvs g) (s:aA H H'):NV H' kvs g :=
 .of (λk e=>h.no e) λk t e=>by let#[x,h1,h2]:=h.yes e; show#[x,h1,h2*>s]
def NV.upd {H:Hp} {q:Mc} {o o':HO} {kvs:List (aI×V)} {g:Int->JK Tr} (h:NV H kvs g) (hq:H q=⇑o') (hn:∀xs,o'≠.tup xs):NV (upd H q o) kvs g :=
 .of (λk e=>h.no e) λk t e=>by let#[x,h1,h2]:=h.yes e; show#[x,h1,h2.upd hq hn]
abbrev setG (g:Int->JK Tr) (k:Int) (t:Tr):Int->JK Tr:=λj=>if j=k then ⇑t else g j
def NV.put {H:Hp} {kvs:List (aI×V)} {g:Int->JK Tr} (h:NV H kvs g) {k:Int} {t:Tr} {x:V} (r:RAt H t x):NV H (ae kvs (Sum.inl k:aI) x) (setG g k t):=by
 refine .of (λj e=>?_) λj t' e=>?_
 . unfold setG at e;split at e
   . cases e
   . rename_i hj
     rw[valV_put,JI (λz=>hj (Sum.inl.inj z))];exact h.no e
 . unfold setG at e;split at e
   . rename_i hj
     cases e;show#[x,by rw[valV_put,JR (by rw[hj])],r]
   . rename_i hj
     let#[y,h1,h2]:=h.yes e;show#[y,by rw[valV_put,JI (λz=>hj (Sum.inl.inj z))]; exact h1,h2]
def GK {s:Str} {a b:Tr} (ha:okl (lvs a)) (hb:okl (lvs b)):okl (lvs (tog s a b)):=by
 unfold tog;split
 . rename_i x y
   have h1:=jc ha;have h2:=jc hb;have h3:=Dy s h1.1 h2.1 h1.2 h2.2;intro v hv;have:=JO.mp hv;cases this;exact h3
 . intro v hv;rcases JV.mp hv with hv|hv
   . exact ha v hv
   . exact hb v hv
def jr {g:Int->JK Tr} (hg:∀k t,g k=⇑t->okl (lvs t)):∀{tr:Tr},okl (lvs tr)->okl (lvs (pt g tr))
 | .num v,h=>h
 | .box k,h=>by
   show okl (lvs ((g k).getD (.box k)));cases e:g k with
   | none=>exact h
   | some t=>exact hg k t e
 | .op s l r,h=>GK (jr hg (oF h).1) (jr hg (oF h).2)
def Bz {s:Str} {a b:Tr} {n:Nat} (h1:dp a<=n) (h2:dp b<=n):dp (tog s a b)<=n+1:=by
 unfold tog;split
 . exact Jm _
 . show max (dp a) (dp b)+1<=n+1
   lia
def oN {g:Int->JK Tr} {m:Nat} (hg:∀k t,g k=⇑t->dp t<=m):∀(tr:Tr),dp (pt g tr)<=dp tr+m
 | .num v=>Jm _
 | .box k=>by
   show dp ((g k).getD (.box k))<=_;cases e:g k with
   | none=>exact Jm _
   | some t=>have:=hg k t e; show dp t<=0+m; lia
 | .op s l r=>by
   have h1:=oN hg l;have h2:=oN hg r;have:=Bz (s:=s) (a:=pt g l) (b:=pt g r) (n:=max (dp l) (dp r)+m) ∅ ∅;show dp (tog s (pt g l) (pt g r))<=max (dp l) (dp r)+1+m
   lia
def qx {v:Int} (h0:0<=v) (h1:v<wide):okl (lvs (.num v)):=λw hw=>by have h:=JO.mp hw;cases h;show#[h0,h1]
def okl_box (k:Int):okl (lvs (.box k)):=λw hw=>by have h:=JO.mp hw;cases h
def Ad {x y i:Int} (h0:0<=i) (h1:i<2):ay [V.int x,V.int y] i=⇑(.int (if i=0 then x else y)):=by
 have:i=0\/i=1:=by lia
 rcases this with e|e <;> subst e <;> rfl
end Rk2
namespace K41
open PySem L2 Gx Fl
structure RR where
 w:Rw
 d:K12.RowD
abbrev qT (K:Md) (H:Hp) (x:RR):Prop:=x.w.r=x.d.r/\jm K H x.w/\K12.RowAt K H x.d
abbrev lc (z:Int):Nat:=K12.lets.cps.toList.getD z.toNat 0
def wW:K12.lets.cps.toList.length=26:=by decide +kernel
variable {z:Int}
def ue (h0:0<=z) (h1:z<26):ay K12.lets.cps.toList z=⇑(lc z):=by
 let#[j,rfl]:=KP h0;have hj:j<K12.lets.cps.toList.length:=by rw[wW]; lia
 refine bf ?_;unfold lc;rw[KA,KU,JU hj];rfl
def xr (h0:0<=z) (h1:z<26):lc z∈K12.lets.cps.toList:=by
 have hj:z.toNat<K12.lets.cps.toList.length:=by rw[wW]; lia
 unfold lc;rw[KU,JU hj];exact KL hj
def GQ {x y:Int} (x0:0<=x) (x1:x<26) (y0:0<=y) (y1:y<26) (h:lc x=lc y):x=y:=by
 have key:∀i<26,∀j<26,K12.lets.cps.toList.getD i 0=K12.lets.cps.toList.getD j 0->i=j:=by decide +kernel
 have:=key x.toNat ∅ y.toNat ∅ h
 lia
def w5 {l:List Nat} (h:∀c∈l,c∈K12.lets.cps.toList):PyData.strOk (tx l)=true:=by
 have hz:=K12.lets_ok;unfold PyData.strOk at hz ⊢;rw[Array.all_eq_true'] at hz ⊢;intro x hx;have hx:x∈l:=by simpa [tx] using hx
 exact hz x (by simpa using h x hx)
abbrev jM:List V:=[V.str "fn",V.str "in",V.str "new",V.str "get",V.str "put",V.str "call",V.str "out",V.str "if",V.str "while",V.str "else",V.str "end",V.str "back"]
abbrev eo (W:List Nat) (a:Nat) (z:Int) (k:Nat):List Nat:=W.take a++[lc ((z+k)%26)]++W.drop a
abbrev eY (W:List Nat) (a:Nat) (z:Int) (k:Nat):Str:=if fQ (.str (tx (eo W a z k))) jM=true then tx (eo W a z k++[120]) else tx (eo W a z k)
def oQ (W:List Nat) (a:Nat) (z:Int) (k:Nat):(eo W a z k).length=W.length+1:=by
 unfold eo;rw[JF,JF,Jk,KI];simp
 lia
variable {j:Nat}
def xR {W:List Nat} {a:Nat} {i:Nat}(hi:i<26) (hj:j<26) (h:eo W a z i=eo W a z j):i=j:=by
 unfold eo at h;rw[Jn,Jn] at h;have h:=List.append_cancel_left h;have h:=(List.cons.inj h).1;have b1:=ij (z+i) 26 #[];have b2:=ij (z+j) 26 #[];have:=GQ b1.1 b1.2 b2.1 b2.2 h
 lia
def C8 {W:List Nat} {a:Nat} {i:Nat}(hi:i<26) (hj:j<26) (h:eY W a z i=eY W a z j):i=j:=by
 have l1:=oQ W a z i;have l2:=oQ W a z j;unfold eY at h;split at h
 . split at h
   . have:=oK h;exact xR hi hj (List.append_cancel_right this)
   . have:=JW List.length (oK h);rw[JF] at this;simp at this
     lia
 . split at h
   . have:=JW List.length (oK h);rw[JF] at this;simp at this
     lia
   . exact xR hi hj (oK h)
def C4 {W:List Nat} {a:Nat} {k:Nat} (hW:∀c∈W,c∈K12.lets.cps.toList) (hl:W.length<=10):K12.Nm (eY W a z k):=by
 have b1:=ij (z+k) 26 #[];have hm:∀c∈eo W a z k,c∈K12.lets.cps.toList:=λc hc=>by
   unfold eo at hc;rcases JV.mp hc with h|h
   . rcases JV.mp h with h|h
     . exact hW c (Ll h)
     . rw[JO.mp h]; exact xr b1.1 b1.2
   . exact hW c (Lm h)
 have l1:=oQ W a z k;unfold eY;split
 . show#[by rw[gd,JF,l1]; simp; lia,w5 λc hc=>?_];rcases JV.mp hc with h|h
   . exact hm c h
   . rw[JO.mp h]; decide +kernel
 . show#[by rw[gd,l1]; lia,w5 hm]
def EV {l:List Nat} (h:j<=l.length):PySem.Txt.slice (tx l) none ⇑(j:Int)=tx (l.take j):=by have:=PyProof.Rows.slice_closes_to (x:=tx l) (j:=(j:Int)) #[∅,by rw[kX]; lia];rw[M8,kX] at this;rw[this];simp [tx]
def HG {l:List Nat} (h:j<=l.length):PySem.Txt.slice (tx l) ⇑(j:Int) none=tx (l.drop j):=by
 have:=PyProof.Rows.slice_from_eq (x:=tx l) (i:=(j:Int)) (b:=(l.length:Int)) ∅ (by rw[gd]; lia) (by rw[gd]);rw[this,kX];have e:((l.length:Int) - (j:Int)).toNat=(l.drop j).length:=by rw[KI]; lia
 rw[e,KA,Jw];rfl
end K41
namespace Bg
open PySem L2 Gx Rk2
abbrev bL:Tr->PyData
 | .box k=>.tuple [.str "box",.int k]
 | .num v=>.tuple [.str "num",.int v]
 | .op s l r=>.tuple [.str s,bL l,bL r]
abbrev eZ:Tr->Prop
 | .op s l r=>PyData.strOk s=true/\eZ l/\eZ r
 | _=>True
def iD:∀{t:Tr},eZ t->ax (dp t+1) (bL t)
 | .box k,_=>by
   unfold bL dp;refine ax.tuple λd hd=>?_;rcases JT.mp hd with rfl|hd
   . exact ax.str Ea
   . cases JO.mp hd; exact ax.int _
 | .num v,_=>by
   unfold bL dp;refine ax.tuple λd hd=>?_;rcases JT.mp hd with rfl|hd
   . exact ax.str Ei
   . cases JO.mp hd; exact ax.int _
 | .op s l r,h=>by
   have h1:=iD h.2.1;have h2:=iD h.2.2;unfold bL dp;refine ax.tuple λd hd=>?_;rcases JT.mp hd with rfl|hd
   . exact ax.str h.1
   . rcases JT.mp hd with rfl|hd
     . exact h1*>(by have:=Nat.le_max_left (dp l) (dp r); lia)
     . cases JO.mp hd; exact h2*>(by have:=Nat.le_max_right (dp l) (dp r); lia)
def dR {K:Md} {H:Hp}:∀{t:Tr} {v:V},RAt H t v->au K H (bL t) v
 | .box k,v,h=>by let#[p,rfl,e]:=h;unfold bL au;show#[p,5,aD.of e,?_];unfold bF;show#[9,by unfold au; rfl,?_];unfold bF;show#[9,by unfold au; rfl,?_];unfold bF;rfl
 | .num k,v,h=>by let#[p,rfl,e]:=h;unfold bL au;show#[p,5,aD.of e,?_];unfold bF;show#[9,by unfold au; rfl,?_];unfold bF;show#[9,by unfold au; rfl,?_];unfold bF;rfl
 | .op s l r,v,h=>by let#[p,x,y,rfl,e,n1,n2,hx,hy]:=h;have ix:=dR (K:=K) hx;have iy:=dR (K:=K) hy;unfold bL au;show#[p,5,aD.of e,?_];unfold bF;show#[9,by unfold au; rfl,?_];unfold bF;show#[9,ix,?_];unfold bF;show#[9,iy,?_];unfold bF;rfl
def i8 (s s':Str) (k b:Int):PyData.eqv (.tuple [.str s,.int k]) (.tuple [.str s',.int b])=(decide (s=s')&&decide (k=b)):=E6 s s' k b
def pX (t:Tr) (k:Int):PyData.eqv (bL t) (bL (.box k))=decide (t=.box k):=by
 cases t with
 | box j =>
   refine(i8 _ _ _ _).trans ?_;rw[JG rfl,K3,K8,K1,K1];show#[λe=>by rw[e],λe=>Tr.box.inj e]
 | num v =>
   refine(i8 _ _ _ _).trans ?_;rw[JP vS,Ki];exact(JP (λz=>by cases z)).symm
 | op s l r =>
   rw[JP 0xB];unfold bL PyData.eqv PyData.eqvAll;unfold PyData.eqvAll;unfold PyData.eqvAll;rw[Jx,Jx]
def Gn (t:Tr) (k:Int):PyData.eqv (bL t) (bL (.num k))=decide (t=.num k):=by
 cases t with
 | num j =>
   refine(i8 _ _ _ _).trans ?_;rw[JG rfl,K3,K8,K1,K1];show#[λe=>by rw[e],λe=>Tr.num.inj e]
 | box v =>
   refine(i8 _ _ _ _).trans ?_;rw[JP uS,Ki];exact(JP (λz=>by cases z)).symm
 | op s l r =>
   rw[JP 0xB];unfold bL PyData.eqv PyData.eqvAll;unfold PyData.eqvAll;unfold PyData.eqvAll;rw[Jx,Jx]
def Bo {s:Str} (hs:PyData.strOk s=true) {a b:Tr} (ha:eZ a) (hb:eZ b):eZ (tog s a b):=by cases a <;> cases b <;> first|exact trivial|show#[hs,ha,hb]
def mi {g:Int->JK Tr} (hg:∀k u,g k=⇑u->eZ u):∀{t:Tr},eZ t->eZ (pt g t)
 | .num v,_=>trivial
 | .box k,_=>by
   unfold pt;cases e:g k with
   | none=>exact trivial
   | some u=>exact hg k u e
 | .op s l r,h=>Bo h.1 (mi hg h.2.1) (mi hg h.2.2)
abbrev aO (H:Hp):JK Tr->V->Prop
 | none,v=>v=.non
 | some t,v=>RAt H t v
def aO.mono {H H':Hp} {o:JK Tr} {v:V} (h:aO H o v) (e:aA H H'):aO H' o v:=by
 cases o with
 | none=>exact h
 | some t=>exact RAt.mono e h
def aO.lst {H:Hp} {q:Mc} {l:List V} {o:HO} (hq:H q=⇑(.lst l)) {u:JK Tr} {v:V} (h:aO H u v):aO (upd H q o) u v:=by
 cases u with
 | none=>exact h
 | some t=>exact RAt.lst hq h
abbrev TOk (t:Tr):Prop:=okl (lvs t)/\eZ t/\dp t<=8/\∀k,(true,k)∈lvs t->0<=k/\k<128
abbrev gD (n:Nat) (t:Tr):Prop:=okl (lvs t)/\eZ t/\dp t<=n/\∀k,(true,k)∈lvs t->0<=k/\k<128
variable {n:Nat}
def gD.ok {t:Tr} (h:gD n t) (hn:n<=8):TOk t:=#[h.1,h.2.1,Jj h.2.2.1 hn,h.2.2.2]
def tL {k:Int} (h:0<=k/\k<128):gD n (.box k):=#[okl_box k,trivial,Jm _,λj hj=>by cases JO.mp hj; exact h]
def wU {v:Int} (h0:0<=v) (h1:v<K21.wide):gD n (.num v):=#[qx h0 h1,trivial,Jm _,λj hj=>by cases JO.mp hj]
def mh {s:Str} {a b:Tr} (hs:PyData.strOk s=true) (ha:gD n a) (hb:gD n b):gD (n+1) (.op s a b) :=
 #[λv hv=>(JV.mp hv).elim (ha.1 v) (hb.1 v),#[hs,ha.2.1,hb.2.1],Nat.succ_le_succ (Nat.max_le.mpr #[ha.2.2.1,hb.2.2.1]),λk hk=>(JV.mp hk).elim (ha.2.2.2 k) (hb.2.2.2 k)]
def oX {i:Int} {ch:Nat} (h:ay ("+-*/<=&|^":Str).cps.toList i=⇑ch):PyData.strOk (#[(List.toArray [ch])]:Str)=true:=by
 have hm:ch∈("+-*/<=&|^":Str).cps.toList:=by
   unfold ay at h;cases e:cT ("+-*/<=&|^":Str).cps.toList.length i with
   | none=>rw[e] at h; cases h
   | some j=>rw[e] at h; exact JM h
 have key:∀c∈("+-*/<=&|^":Str).cps.toList,PyData.strOk (⟨(List.toArray [c])⟩:Str)=true:=by decide +kernel
 exact key ch hm
def ce (a b:Int) (h:0<b):0<=a%b/\a%b<b:=#[L5 _ (Int.ne_of_gt h),Kr _ h]
abbrev iG (bs:List Int):Prop:=bs.length=8/\∀b∈bs,0<=b/\b<128
def mT {bs:List Int} (h:iG bs) (z:Int):∃b,(0:Int)<((bs.map V.int).length:Nat)/\ay (bs.map V.int) (z%((bs.map V.int).length:Nat))=⇑(.int b)/\0<=b/\b<128:=by
 have hl:(bs.map V.int).length=8:=by rw[JE]; exact h.1
 have hz:=ce z ((bs.map V.int).length:Nat) ∅;let#[j,ej]:=KP hz.1;have hj:j<bs.length:=by have:=h.1; lia
 show#[bs[j],∅,?_,(h.2 _ (KL hj)).1,(h.2 _ (KL hj)).2];rw[ej];refine bf ?_;rw[JS,JU hj];rfl
end Bg
namespace L2
open PySem PySem.Spec PyProof.Rows
abbrev sB:Stmt->List Stmt
 | .For _ _ b _ _=>b
 | .While _ b _ _=>b
 | .If _ b _ _=>b
 | _=>[]
inductive WVar (i:Nat) (σ:St) (H:Hp) (Q:VK):Prop
 | mk (v:V) (h:σ[i]?=⇑⇑v) (q:Q v H):WVar i σ H Q
abbrev qi (i:Nat):TE:=λσ H Q=>WVar i σ H Q
variable {X:Cx}
def a8 (i:Nat) {x:Str} {pos:Pos} (hN:X.N[i]?=⇑x:=by rfl) (hv:nK X.env.scope x:=by first|exact Or.inl rfl|exact Or.inr 0x8|exact Or.inr (Or.inr rfl)) (hd:(x==("__debug__":Str))=false:=by decide)
   (hcd:(x==("__classdict__":Str))=false:=by decide):PE X (.Name x pos) (qi i):=λpins s σ H Q I h=>pv i hN hv hd hcd pins s σ H Q I (by let#[v,e,q]:=h; show#[v,e,q])
inductive WIxL (K:W.Frag) (x y:V) (H:Hp) (Q:VK):Prop
 | mk (p:Addr) (xs:List V) (i:Int) (v:V) (h1:x=↥p) (h2:y=.int i) (h3:aE K H p xs) (h4:ay xs i=⇑v) (q:Q v H):WIxL K x y H Q
inductive WIxT (K:W.Frag) (x y:V) (H:Hp) (Q:VK):Prop
 | mk (p:Addr) (xs:List V) (i:Int) (v:V) (h1:x=↥p) (h2:y=.int i) (h3:aD K H p xs) (h4:ay xs i=⇑v) (q:Q v H):WIxT K x y H Q
abbrev rR (K:Md):R2:=λx y H Q=>WIxL K x y H Q
abbrev kH (K:Md):R2:=λx y H Q=>WIxT K x y H Q
def fE.imp {r r':R2} (h:fE X r) (f:∀x y H Q,r' x y H Q->r x y H Q):fE X r':=λa b pins s σ H x y v u Q I r1 r2 q z=>h a b pins s σ H x y v u Q I r1 r2 (f x y H Q q) z
def bU.imp {g:Ma->Ma->Sem Ma} {r r':R2} (h:bU X g r) (f:∀x y H Q,r' x y H Q->r x y H Q):bU X g r':=λpins s σ H x y v u Q I r1 r2 q=>h pins s σ H x y v u Q I r1 r2 (f x y H Q q)
def bX.imp {g:Ma} {r r':List V->Hp->VK->Prop} (h:bX X g r) (f:∀xs H Q,r' xs H Q->r xs H Q):bX X g r':=λpins s σ H xs us Q I r1 q=>h pins s σ H xs us Q I r1 (f xs H Q q)
def xz :fE X (rR X.K):=vd.imp λx y H Q h=>by let#[p,xs,i,v,h1,h2,h3,h4,q]:=h; show#[p,xs,i,v,h1,h2,h3,h4,q]
def mS :fE X (kH X.K):=lA.imp λx y H Q h=>by let#[p,xs,i,v,h1,h2,h3,h4,q]:=h; show#[p,xs,i,v,h1,h2,h3,h4,q]
inductive WI (C:Int->Int->Prop) (g:Int->Int->V) (x y:V) (H:Hp) (Q:VK):Prop
 | mk (i j:Int) (h1:x=.int i) (h2:y=.int j) (h3:C i j) (q:Q (g i j) H):WI C g x y H Q
inductive WI0 (g:Int->Int->V) (x y:V) (H:Hp) (Q:VK):Prop
 | mk (i j:Int) (h1:x=.int i) (h2:y=.int j) (q:Q (g i j) H):WI0 g x y H Q
abbrev cI (C:Int->Int->Prop) (g:Int->Int->V):R2:=λx y H Q=>WI C g x y H Q
abbrev cI0 (g:Int->Int->V):R2:=λx y H Q=>WI0 g x y H Q
def aM {f:Ma->Ma->Sem Ma} {C:Int->Int->Prop} {g:Int->Int->V} (h:bU X f (rI C g)):bU X f (cI C g):=h.imp λx y H Q h=>by let#[i,j,h1,h2,h3,q]:=h; show#[i,j,h1,h2,h3,q]
def bN {f:Ma->Ma->Sem Ma} {g:Int->Int->V} (h:bU X f (gc g)):bU X f (cI0 g):=h.imp λx y H Q h=>by let#[i,j,h1,h2,q]:=h; show#[i,j,h1,h2,q]
inductive WLen (K:W.Frag) (xs:List V) (H:Hp) (Q:VK):Prop
 | mk (p:Addr) (ys:List V) (h1:xs=[↥p]) (h2:aE K H p ys\/aD K H p ys) (q:Q (.int ys.length) H):WLen K xs H Q
abbrev cP (K:Md):List V->Hp->VK->Prop:=λxs H Q=>WLen K xs H Q
def cR :bX X (.builtin "len") (cP X.K):=qv.imp λxs H Q h=>by let#[p,ys,h1,h2,q]:=h; show#[p,ys,h1,h2,q]
inductive WApp (x:V) (vs:List V) (H:Hp) (Q:VK):Prop
 | mk (l:Addr) (xs:List V) (y:V) (h1:x=↥l) (h2:vs=[y]) (h3:H l=⇑(.lst xs)) (h4:xs.length<sizeLine) (q:Q .non (upd H l (.lst (xs++[y])))):WApp x vs H Q
abbrev Dz:V->List V->Hp->VK->Prop:=λx vs H Q=>WApp x vs H Q
def gF :nu X "list.append" Dz:=λpins s σ H x xs v us Q I r1 r2 q=>nR pins s σ H x xs v us Q I r1 r2 (by let#[l,xs,y,h1,h2,h3,h4,q]:=q; show#[l,xs,y,h1,h2,h3,h4,q])
inductive WBl (x:V) (H:Hp) (Q:Bool->Hp->Prop):Prop
 | mk (k:Bool) (h:x=.bl k) (q:Q k H):WBl x H Q
abbrev uK (t:TE):TT:=λσ H Q=>t σ H λx H'=>WBl x H' Q
section
variable {X:Cx} {a b:Expr} {ta tb:TE} {pos:Pos}
def aS {op:CmpOp} {r:R2} (ho:bU X (compareOp op) r) (ha:PE X a ta) (hb:PE X b tb) (hm:behindInMarks op b=false):PT X (.Compare a [op] [b] pos) (uK (gq r ta tb)):=by
 intro pins s σ H Q I h;refine LY (al (ha pins s σ H _ I h) λv s1 ⟨x,H1,I1,r1,q1⟩=>al (hb pins s1 σ H1 _ I1 q1) λu s2 ⟨y,H2,I2,r2,q2⟩ =>
   al (ho pins s2 σ H2 x y v u _ I2 r1 r2 q2) λc s3 z153_=>z153_.e λz H3 I3 r3 w=>?_) hm
 let#[k,e,q3]:=w;subst e;cases r3;exact KY #[H3,I3,q3]
def jE {e:Expr} {t:TE} (h:PE X e t) (he:∀whole,isTrue e X.env whole=(do let v <- whole; standAt e.pos; holding [v] (truthy v)):=by intro _; rfl):PT X e (uK t):=by intro pins s σ H Q I hw;refine isTrue_plain (al (h pins s σ H _ I hw) λv s1 z154_=>?_) (he _);let#[x,H1,I1,r1,q1]:=z154_;let#[d,rfl,q]:=q1;cases r1;exact KY #[H1,I1,q]
end
abbrev oq (t u:TS):TS:=λD σ H=>∃M:St->Hp->Prop,t { D with nx:=M } σ H/\∀σ' H',M σ' H'->u D σ' H'
def d8 {X:Cx} {st:Stmt} {rest:List Stmt} {t u:TS} (h1:PS X st t) (h2:aY X rest u):aY X (st::rest) (oq t u):=Ax h1 h2
end L2
namespace Bg
open PySem L2 Gx K41
abbrev bH (K:Md) (H:Hp) (n:Nat) (v:V):Prop:=∃d,ax n d/\au K H d v
abbrev bj (K:Md) (H:Hp) (n:Nat) (xs:List V):Prop:=∃ds,(∀d∈ds,ax n d)/\bF K H ds xs
def bH.mono {K:Md} {H H':Hp} {n:Nat} {v:V} (h:bH K H n v) (e:aA H H'):bH K H' n v:=by let#[d,l,z]:=h; show#[d,l,au.mono e d v z]
variable {K:Md} {H:Hp} {n:Nat}
def bH.up {m:Nat}{v:V} (h:bH K H n v) (e:n<=m):bH K H m v:=by let#[d,l,z]:=h; show#[d,l*>e,z]
def bH.str {K:Md} {H:Hp} {n:Nat} {s:Str} (h:PyData.strOk s=true):bH K H n (.str s):=#[.str s,ax.str h,by unfold au; rfl]
def bH.int {K:Md} {H:Hp} {n:Nat} {i:Int}:bH K H n (.int i):=#[.int i,ax.int i,by unfold au; rfl]
def bH.bl {b:Bool}:bH K H n (.bl b):=#[.bool b,ax.bool b,by unfold au; rfl]
def bH.non :bH K H n .non:=#[.none,ax.none,by unfold au; rfl]
def bj.nil :bj K H n []:=#[[],λd h=>(by cases h),by unfold bF; rfl]
def bj.cons {K:Md} {H:Hp} {n:Nat} {x:V} {xs:List V} (h:bH K H n x) (t:bj K H n xs):bj K H n (x::xs):=by let#[d,l,z]:=h;let#[ds,ls,zs]:=t;show#[d::ds,λe he=>(JT.mp he).elim (λz=>z ▸ l) (ls e),?_];unfold bF;show#[9,z,zs]
def bj.of {K:Md} {H:Hp} {n:Nat}:∀{xs:List V},(∀x∈xs,bH K H n x)->bj K H n xs
 | [],_=>.nil
 | x::xs,h=>.cons (h x JZ) (bj.of λy hy=>h y (JY _ hy))
def bH.tup {K:Md} {H:Hp} {n:Nat} {a:Mc} {xs:List V} (h:aD K H a xs) (t:bj K H n xs):bH K H (n+1) ↥a:=by let#[ds,ls,zs]:=t;show#[.tuple ds,ax.tuple ls,?_];unfold au;show#[a,xs,rfl,h,zs]
def bH.lst {K:Md} {H:Hp} {n:Nat} {a:Mc} {xs:List V} (h:aE K H a xs) (t:bj K H n xs):bH K H (n+1) ↥a:=by let#[ds,ls,zs]:=t;show#[.list ds,ax.list ls,?_];unfold au;show#[a,xs,rfl,h,zs]
abbrev cu (K:Md) (H:Hp) (n:Nat) (x y:V):Prop:=∃d,ax n d/\au K H d x/\au K H d y
abbrev eM (K:Md) (H:Hp) (n:Nat) (xs ys:List V):Prop:=∃ds,(∀d∈ds,ax n d)/\bF K H ds xs/\bF K H ds ys
def cu.of {x:V} (h:bH K H n x):cu K H n x x:=by let#[d,l,z]:=h; show#[d,l,z,z]
def cu.up {m:Nat}{x y:V} (h:cu K H n x y) (e:n<=m):cu K H m x y:=by let#[d,l,z]:=h; show#[d,l*>e,z]
def eM.nil :eM K H n [] []:=#[[],λd h=>(by cases h),(by unfold bF; rfl),(by unfold bF; rfl)]
def eM.cons {K:Md} {H:Hp} {n:Nat} {x y:V} {xs ys:List V} (h:cu K H n x y) (t:eM K H n xs ys):eM K H n (x::xs) (y::ys):=by
 let#[d,l,z1,z2]:=h;let#[ds,ls,zs1,zs2]:=t;show#[d::ds,λe he=>(JT.mp he).elim (λz=>z ▸ l) (ls e),?_,?_]
 . unfold bF;show#[9,z1,zs1]
 . unfold bF;show#[9,z2,zs2]
def eM.of {xs:List V} (h:bj K H n xs):eM K H n xs xs:=by let#[ds,l,z]:=h; show#[ds,l,z,z]
def cu.tup {K:Md} {H:Hp} {n:Nat} {a b:Mc} {xs ys:List V} (h1:aD K H a xs) (h2:aD K H b ys) (t:eM K H n xs ys):cu K H (n+1) ↥a ↥b:=by
 let#[ds,ls,z1,z2]:=t;show#[.tuple ds,ax.tuple ls,?_,?_]
 . unfold au;show#[a,xs,rfl,h1,z1]
 . unfold au;show#[b,ys,rfl,h2,z2]
def cu.lst {K:Md} {H:Hp} {n:Nat} {a b:Mc} {xs ys:List V} (h1:aE K H a xs) (h2:aE K H b ys) (t:eM K H n xs ys):cu K H (n+1) ↥a ↥b:=by
 let#[ds,ls,z1,z2]:=t;show#[.list ds,ax.list ls,?_,?_]
 . unfold au;show#[a,xs,rfl,h1,z1]
 . unfold au;show#[b,ys,rfl,h2,z2]
def cu.eq {Q:VK} {x y:V} (h:cu K H n x y) (hn:n<=64) (q:Q (.bl true) H):jU K x y H Q:=by let#[d,l,z1,z2]:=h; exact Ig hn l z1 z2 q
def Dt {nk:Str} {fa tr qC:Mc} {fo:V} {ps:List Str} (rr:List RR) (h1:aD K H fa [.str nk,fo,↥qC,↥tr]) (h2:aD K H tr (rr.map λx=>V.ref x.w.r)) (h3:∀x∈rr,qT K H x) (h4:aD K H qC (ps.map V.str)) (h5:∀s∈ps,K12.Nm s) (h6:ps.length<=100) (h7:rr.length<=100) (wf:K13.Wf (rr.map λx=>x.w.k)) :
   F2.FnAt K H #[nk,fo,fa,qC,tr,ps,rr.map (·.w),rr.map (·.d)]:=by
 show#[h1,h4,by show aD K H tr ((rr.map (·.w)).map λw=>V.ref w.r); rw[K7]; exact h2,λw hw=>?_,#[#[16,h1,h4,?_],λd hd=>?_,h5,h6,by show(rr.map (·.d)).length<=100; rw[JE]; exact h7],by show K13.Wf ((rr.map (·.w)).map (·.k)); rw[K7]; exact wf,by show(rr.map (·.w)).length<=100; rw[JE]; exact h7]
 . let#[x,hx,rfl]:=Jh.mp hw;exact(h3 x hx).2.1
 . show aD K H tr ((rr.map (·.d)).map λd=>V.ref d.r);rw[K7];have:(rr.map λx=>V.ref x.w.r)=rr.map ((λd=>V.ref d.r) ∘ (·.d)):=List.map_congr_left λx hx=>by show V.ref x.w.r=V.ref x.d.r;rw[(h3 x hx).1]
   rw[<- this];exact h2
 . let#[x,hx,rfl]:=Jh.mp hd;exact(h3 x hx).2.2
abbrev Ic (K:Md) (H:Hp) (x:RR):Prop:=qT K H x/\bH K H 3 ↥x.w.r
end Bg
namespace Ex
open PySem PySem.W PyProof.Rows PySem.Spec
section
variable {prog:Program} {w:World} {A:Around} {E:Ma->Mb->Prop} {R:Result->Mb->Prop} {h:Heap} {g:Array GenState} {d:Drawn} {t:Nat} {os:OsState}
 {nm q:Str} {C N:Mc} {bs bm:List Ma} {hdct:Bool} {sn:List Str} {sub:List Ma} {ab:Bool} {col:JK Bool} {dd:JK Mc} {k0 k1 k2 k3 k5:JK Ma}
end
end Ex
namespace L2
open PySem PySem.Spec PyProof.Rows
section
variable {P:Program} {w:World} {K:Md} {mg:Str->JK Ma} {base:Heap} {N:List Str} {qual:Str} {sc:Scope} {f:Mc} {cd:Ma} {A:Around} {outer:List Env} {s0 s:Mb} {H0 H:Hp} {E:XK}
 {pins:List (Mc×Obj)} {σ:St} {cls:Ma} {d:JK Mc} {e:Mc}
end
end L2
namespace Ex
open PySem PySem.W PyProof.Rows PySem.Spec
section
variable {prog:Program} {w:World} {A:Around} {E:Ma->Mb->Prop} {R:Result->Mb->Prop} {h:Heap} {g:Array GenState} {d:Drawn} {t:Nat} {os:OsState}
 {nm q:Str} {C N:Mc} {bs bm:List Ma} {hdct:Bool} {sn:List Str} {sub:List Ma} {ab:Bool} {col:JK Bool} {dd:JK Mc} {k0 k1 k2 k3 k5:JK Ma}
end
end Ex
namespace Sk
open PySem PySem.Spec PyProof.Rows
mutual
noncomputable def g8 (w:World):PyData->Int
 | .int i=>hashInt i
 | .str x=>hashStr w x
 | .bool b=>hashInt (if b then 1 else 0)
 | .tuple ds=>reduceHash (Builtin.Tuple.tupleHashOf (xS w ds))
 | _=>0
noncomputable def xS (w:World):List PyData->List Int
 | []=>[]
 | d::ds=>g8 w d::xS w ds
end
mutual
noncomputable def drw:PyData->Nat
 | .tuple ds=>um ds+1
 | _=>1
noncomputable def um:List PyData->Nat
 | []=>0
 | d::ds=>drw d+um ds
end
end Sk
namespace L2
open PySem PySem.Spec PyProof.Rows
abbrev qN (K:Md):V->List V->Hp->VK->Prop:=λx xs H Q=>∃p ys y j,x=↥p/\xs=[y]/\aE K H p ys/\eI y=true/\ys.all eI=true/\j<1000/\(∃z,ys[j]?=⇑z/\eQ z y=true)/\(∀m z,m<j->ys[m]?=⇑z->eQ z y=false)/\Q (.int (j:Nat)) H
def jH {X:Cx}:jd X "list.index" (qN X.K):=by
 intro pins s σ H x vs v us Q I rx rv h;obtain⟨p,ys,y,j,rfl,rfl,hT,fy,fs,hj0,⟨z,hz,ez⟩,hno,q⟩:=h;cases rx;let#[u,rfl,ru]:=rv.one;obtain⟨its,r,⟨⟨cls,dd,data,sl⟩,n,ho,hc,_,hd⟩,hl⟩:=I.list hT;simp only at hc hd;subst hc hd;let#[uz,huz,rz]:=r.get hz;have hj:j<its.toArray.size:=by rw[Ja];exact(JH.mp huz).1
 have eU:∀(m:Nat) (hm:m<its.toArray.size) (zz:V),ys[m]?=⇑zz->gE y its.toArray[m]=eQ zz y:=λm hm zz hzz=>by
   let#[uu,huu,ruu]:=r.get hzz;have:its.toArray[m]=uu:=by have h2:=(JH.mp huu).2;simpa using h2
   rw[this];exact pU ruu (Kh.mp fs zz (JM hzz))
 refine call_meets F.slot_list_index #[_,ho,rfl] F.entry_list_index (F.args_list_index_2 _ _) (SeqAt.list_indexAt p its.toArray n dd sl u (gE y) j hj ∅ (by rw[eU j hj z hz]; exact ez) λm hm hmj=>?_) #[ho,λw hw=>r6 ru fy r fs w ↑hw,?_]
 . have hm':m<ys.length:=by rw[r.length]; simpa using hm
   rw[eU m hm ys[m] (JU hm')];exact hno m _ hmj (JU hm')
 . show#[.int j,H,I.tok _,#[5],q]
end L2
namespace PySem
def Hv:typeLookup (.type "zip") "keys"=pure none:=by rw[typeLookup_type,builtinLookup_eq_fast]; kernel_rfl
def EB:typeLookup (.type "zip") "__getattr__"=pure none:=by rw[typeLookup_type,builtinLookup_eq_fast]; kernel_rfl
def Dm:entryFor table "zip.__getattribute__"=⇑Builtin.«object.__getattribute__» :=
 entryFor_alias (id':="object.__getattribute__") (by kernel_rfl) 0x3 0x3 (by kernel_rfl)
def Ey (a:Mc) (xs:Array Ma) (sl:Array (JK Ma)) (name:Str) (u:Tok) (hmiss:typeLookup (.type "zip") name=pure none) (hname:(["__module__","__name__","__qualname__","__doc__","__annotations__"]:List Str).contains name=false) (hsz:name.length+100<=sizeLine:=by size_fits) :
   Meets (Builtin.«object.__getattribute__» #[[↥a,.str name u],[]]) (λA R s=>s.heap.get? a=some { cls:=.type "zip",dict:=none,data:=.fields xs,slots:=sl }/\raisesAttr ↥a name A R s) :=
 Meets.of_wp λprog w A R s hs=>by
   let#[hp,g,d,tk,os]:=s;let#[hx,hs]:=hs;have hT:(⟨hp,g,d,tk,os⟩:Mb).TypeIs ↥a "zip":=#[_,hx,rfl]
   unfold Builtin.«object.__getattribute__»
   repeat (any_goals (first|assumption|wp_step))
   simp only[hname,Lx,if_false]
   repeat (any_goals (first|assumption|wp_step))
   exact wpAny_raiseAttrError hs.1 hs.2 (attrMsg_fits 0x3 hsz)
def DP {prog:Program} {w:World} {A:Around} {E:Ma->Mb->Prop} {s:Mb} {a:Mc} {o:Obj} {xs:Array Ma} {Q:JK Ma->Mb->Prop}
   (hx:s.heap.get? a=⇑o) (hc:o.cls=.type "zip") (hdat:o.data=.fields xs) (hd:o.dict=none) (hA:A.handled=none)
   (h:∀h' tk,(∀b ob,s.heap.get? b=⇑ob->h'.get? b=⇑ob)->Q none { s with heap:=h',toks:=tk }) :
   wpAny 0x9 A (getAttr? ↥a "keys") Q E s:=by
 let#[c,dct,dat,sl]:=o;simp only at hc hdat hd;subst hc hdat hd;let#[hp,g,d,tk,os]:=s;have hT:∀tk',(⟨hp,g,d,tk',os⟩:Mb).TypeIs ↥a "zip":=λ_=>#[_,hx,rfl]
 have f1:=sub_AttributeError;have f3:=LL.lookup;have f4:=LL.bind ↥a;have f5:=EB;unfold getAttr? getAttrBy? getAttrBy
 repeat (any_goals (first|assumption|exact hT _|((with_reducible show wpAny _ _ (call (Value.builtin "zip.__getattribute__") _ _) _ _ _); refine call_meets LL (hT _) Dm (F.args_zip_getattribute_2 _ _) (Ey a xs sl "keys" _ Hv 0x3 0x3) #[hx,hA,λh' tk' e hx'=>?_])|wp_step))
 let#[t',u',he]:=hx'.there
 try (show wpAny _ _ (getattributeRaised _ _ _ _ _ _ _) _ _ _)
 try unfold getattributeRaised
 repeat (any_goals (first|assumption|wp_step))
 all_goals (first|exact h _ _ hx'.keeps|trace_state)
end PySem
namespace PySem
open Sem (wp)
noncomputable abbrev j1 (h:Heap) (z TI TO T:Mc) (fb:Bool):Prop :=
 h.get? z=some { cls:=.type "zip",dict:=none,data:=.fields (List.toArray [rawInt T,.bool fb,.bool false,↥TI,↥TO]),slots:=0xA }
variable {z i1 i2 l1 l2:Mc} {b1 b2:Bool} {k1 k2:Nat}
section
variable {prog:Program} {w:World} {A:Around} {E:Ma->Mb->Prop} {s:Mb}
def BZ {a:Mc} {Q:JK Obj->Mb->Prop} (h:Q (s.heap.get? a) s):wpAny 0x9 A (loadIfAlive a) Q E s:=λΓ p _=>by unfold loadIfAlive;rw[Sem.wp_loadIfAlive];exact↑h
def vY {TI TO T:Mc}{fb:Bool} {Q:Bool->Mb->Prop} (zZ:j1 s.heap z TI TO T fb) (aT:∃o,s.heap.get? T=⇑o)
   (hQ:∀h',j1 h' z TI TO T true->Heap.SameBut z s.heap h'->Q false { s with heap:=h' }):wpAny 0x9 A (Builtin.SmallTypes.ownedTupleIsFree ↥z) Q E s:=by
 unfold Builtin.SmallTypes.ownedTupleIsFree;refine JD (K4 zZ rfl (x:=rawInt T) rfl ?_);show wpAny _ _ (loadIfAlive _ >>= _) _ _ _;refine JD (BZ ?_);let#[o,ho]:=aT;rw[show(T:Int).toNat=T from rfl,ho];rw[JI 0x6];refine JD (K4 zZ rfl (x:=.bool fb) rfl ?_);cases fb with
 | true=>exact JQ (hQ _ zZ #[rfl,λ_ _=>rfl])
 | false=>exact JD (Kk zZ 0x6 λh₁ zZ₁ hs₁=>JQ (hQ h₁ zZ₁ hs₁))
def Ay {TI TO T:Mc}{fb:Bool} {xs ys:Array Ma} {x y:Ma} {Q:Ma->Mb->Prop} (D:ZipApart z TI TO i1 i2 l1 l2)
   (zZ:j1 s.heap z TI TO T fb) (aT:∃o,s.heap.get? T=⇑o) (zI:IsPair s.heap TI ↥i1 ↥i2)
   (p1:bS b1 s.heap i1 l1 k1) (p2:bS b2 s.heap i2 l2 k2) (q1:bn b1 s.heap l1 xs) (q2:bn b2 s.heap l2 ys) (hx:xs[k1]?=⇑x) (hy:ys[k2]?=⇑y)
   (hQ:∀h',j1 h' z TI TO T true->bS b1 h' i1 l1 (k1+1)->bS b2 h' i2 l2 (k2+1)->IsPair h' s.heap.objs.size x y->h'.objs.size=s.heap.objs.size+1 ->
     (∀c o,c≠z->c≠i1->c≠i2->s.heap.get? c=⇑o->h'.get? c=⇑o)->Q ↥s.heap.objs.size { s with heap:=h' }) :
   wpAny 0x9 A (Builtin.«zip.__next__» #[[↥z],[]]) (λfin s'=>∃v,fin=.done (.ret v)/\Q v s') E s:=by
 show wpAny _ _ (field ↥z 2 >>= _) _ _ _;refine JD (K4 zZ rfl (x:=.bool false) rfl ?_);show wpAny _ _ (field ↥z 3 >>= _) _ _ _;refine JD (K4 zZ rfl (x:=↥TI) rfl ?_);refine JD (KW zI rfl ?_);show wpAny _ _ (Builtin.SmallTypes.ownedTupleIsFree ↥z >>= _) _ _ _;refine JD (vY zZ aT λh₁ zZ₁ hs₁=>?_);rw[JI 0x6];refine JD ?_;simp only[List.forIn_toArray,LB,Lu];refine JD (JD (K6 ?_));show wpAny _ _ (Builtin.SmallTypes.nextOf ↥i1 >>= _) _ _ _;refine JD (kB (p1.extBut hs₁.extBut D.i1z) (q1.extBut hs₁.extBut D.l1z) hx λh₂ h1₂ hs₂=>JQ (JQ ?_));refine JD (JD (K6 ?_));show wpAny _ _ (Builtin.SmallTypes.nextOf ↥i2 >>= _) _ _ _;refine JD (kB ((p2.extBut hs₁.extBut D.i2z).extBut hs₂.extBut D.i12.symm) ((q2.extBut hs₁.extBut D.l2z).extBut hs₂.extBut D.l2i1) hy λh₃ h2₃ hs₃=>JQ (JQ (JQ ?_)));have hsz:h₃.objs.size=s.heap.objs.size:=by rw[hs₃.1,hs₂.1,hs₁.1]
 have hk:∀c o,c≠z->c≠i1->c≠i2->s.heap.get? c=⇑o->h₃.get? c=⇑o:=λc o c1 c3 c4 e=>hs₃.extBut _ _ c4 (hs₂.extBut _ _ c3 (hs₁.extBut _ _ c1 e));show wpAny _ _ (newTuple [x,y] >>= _) _ _ _;refine JD (wpAny_newTuple ?_);have hz₃:j1 h₃ z TI TO T true:=hs₃.extBut _ _ D.i2z.symm (hs₂.extBut _ _ D.i1z.symm zZ₁);refine JQ #[5,?_];show Q ↥h₃.objs.size _;have hp:IsPair (h₃.push { cls:=.type "tuple",data:=.seq (List.toArray [x,y]) }) s.heap.objs.size x y:=by rw[<- hsz]; exact Jb _ rfl
 rw[hsz];exact hQ _ (JJ _ hz₃) ((h1₂.extBut hs₃.extBut D.i12).at λo e=>JJ _ e) (h2₃.at λo e=>JJ _ e) hp (by rw[Kd,hsz]) λc o c1 c3 c4 e=>JJ _ (hk c o c1 c3 c4 e)
def Cf {TI TO T:Mc}{fb:Bool} {xs ys:Array Ma} {Q:Fin->Mb->Prop} (hh:A.handled=none) (D:ZipApart z TI TO i1 i2 l1 l2)
   (zZ:j1 s.heap z TI TO T fb) (aT:∃o,s.heap.get? T=⇑o) (zI:IsPair s.heap TI ↥i1 ↥i2)
   (p1:bS b1 s.heap i1 l1 k1) (p2:bS b2 s.heap i2 l2 k2) (q1:bn b1 s.heap l1 xs) (q2:bn b2 s.heap l2 ys) (hend:xs[k1]?=none\/ys[k2]?=none)
   (hE:∀h' e,(∀c o,c≠z->c≠i1->c≠i2->s.heap.get? c=⇑o->h'.get? c=⇑o)->(∃o,h'.get? e=⇑o/\o.cls=.type "StopIteration")->E ↥e { s with heap:=h' }) :
   wpAny 0x9 A (Builtin.«zip.__next__» #[[↥z],[]]) Q E s:=by
 show wpAny _ _ (field ↥z 2 >>= _) _ _ _;refine JD (K4 zZ rfl (x:=.bool false) rfl ?_);show wpAny _ _ (field ↥z 3 >>= _) _ _ _;refine JD (K4 zZ rfl (x:=↥TI) rfl ?_);refine JD (KW zI rfl ?_);show wpAny _ _ (Builtin.SmallTypes.ownedTupleIsFree ↥z >>= _) _ _ _;refine JD (vY zZ aT λh₁ zZ₁ hs₁=>?_);rw[JI 0x6];refine JD ?_;simp only[List.forIn_toArray,LB,Lu];refine JD (JD (K6 ?_));show wpAny _ _ (Builtin.SmallTypes.nextOf ↥i1 >>= _) _ _ _;cases hx:xs[k1]? with
 | none=>exact JD (nS hh (p1.extBut hs₁.extBut D.i1z) (q1.extBut hs₁.extBut D.l1z) hx λh₂ e hs₂ he=>hE h₂ e (λc o c1 c3 _ x=>hs₂ _ _ c3 (hs₁.extBut _ _ c1 x)) he)
 | some x =>
   have hy:ys[k2]?=none:=by rcases hend with h|h; rw[hx] at h; cases h; exact h
   refine JD (kB (p1.extBut hs₁.extBut D.i1z) (q1.extBut hs₁.extBut D.l1z) hx λh₂ h1₂ hs₂=>JQ (JQ ?_));refine JD (JD (K6 ?_));show wpAny _ _ (Builtin.SmallTypes.nextOf ↥i2 >>= _) _ _ _;exact JD (nS hh ((p2.extBut hs₁.extBut D.i2z).extBut hs₂.extBut D.i12.symm) ((q2.extBut hs₁.extBut D.l2z).extBut hs₂.extBut D.l2i1) hy λh₃ e hs₃ he=>hE h₃ e (λc o c1 c3 c4 x=>hs₃ _ _ c4 (hs₂.extBut _ _ c3 (hs₁.extBut _ _ c1 x))) he)
abbrev ir (h:Heap) (z TI TO:Mc):JK Mc->Prop
 | none=>IsZip h z TI TO .none/\∃a b,IsPair h TO a b
 | some T=>(∃fb,j1 h z TI TO T fb)/\∃o,h.get? T=⇑o
def CC {TI TO:Mc}{m:JK Mc} {xs ys:Array Ma} {x y:Ma} {Q:JK Ma->Mb->Prop} (D:ZipApart z TI TO i1 i2 l1 l2)
   (zZ:ir s.heap z TI TO m) (hm:∀T,m=⇑T->T≠z/\T≠i1/\T≠i2) (zI:IsPair s.heap TI ↥i1 ↥i2)
   (p1:bS b1 s.heap i1 l1 k1) (p2:bS b2 s.heap i2 l2 k2) (q1:bn b1 s.heap l1 xs) (q2:bn b2 s.heap l2 ys) (hx:xs[k1]?=⇑x) (hy:ys[k2]?=⇑y)
   (hQ:∀h',ir h' z TI TO ⇑(m.getD s.heap.objs.size)->bS b1 h' i1 l1 (k1+1)->bS b2 h' i2 l2 (k2+1)->IsPair h' s.heap.objs.size x y->h'.objs.size=s.heap.objs.size+1 ->
     (∀c o,c≠z->c≠TO->c≠i1->c≠i2->s.heap.get? c=⇑o->h'.get? c=⇑o)->Q ⇑↥s.heap.objs.size { s with heap:=h' }) :
   wpAny 0x9 A (pyNext ↥z) Q E s:=by
 cases m with
 | none =>
   let#[hz,a,b,hTO]:=zZ;exact wA D hz zI hTO p1 p2 q1 q2 hx hy λh' a1 a2 a3 a4 a5 a6 a7=>hQ h' #[#[false,a1],_,a5] a3 a4 a5 a6 a7
 | some T =>
   obtain⟨⟨fb,hz⟩,o,ho⟩:=zZ;have hT:s.TypeIs ↥z "zip":=#[_,hz,rfl]
   let#[t1,t2,t3]:=hm T rfl;unfold pyNext;exact JD (M5 (wpAny_callSpecial?_slot (name:=Str.ofString "__next__") hT Kl
     (KJ Kl hT LX
       (Ay D hz #[o,ho] zI p1 p2 q1 q2 hx hy λh' a1 a3 a4 a5 a6 a7=>JQ (hQ h' #[#[true,a1],o,a7 _ _ t1 t2 t3 ho] a3 a4 a5 a6 λc o c1 _ c3 c4 e=>a7 c o c1 c3 c4 e)) (LO _))))
def BG {TI TO:Mc}{m:JK Mc} {xs ys:Array Ma} {Q:JK Ma->Mb->Prop} (hh:A.handled=none) (D:ZipApart z TI TO i1 i2 l1 l2)
   (zZ:ir s.heap z TI TO m) (zI:IsPair s.heap TI ↥i1 ↥i2)
   (p1:bS b1 s.heap i1 l1 k1) (p2:bS b2 s.heap i2 l2 k2) (q1:bn b1 s.heap l1 xs) (q2:bn b2 s.heap l2 ys) (hend:xs[k1]?=none\/ys[k2]?=none)
   (hQ:∀h',(∀c o,c≠z->c≠TO->c≠i1->c≠i2->s.heap.get? c=⇑o->h'.get? c=⇑o)->Q none { s with heap:=h' }):wpAny 0x9 A (pyNext ↥z) Q E s:=by
 cases m with
 | none =>
   let#[hz,a,b,hTO]:=zZ;exact vW hh D hz zI hTO p1 p2 q1 q2 hend hQ
 | some T =>
   obtain⟨⟨fb,hz⟩,o,ho⟩:=zZ;have hT:s.TypeIs ↥z "zip":=#[_,hz,rfl]
   unfold pyNext;refine JD (M5 (wpAny_callSpecial?_slot (name:=Str.ofString "__next__") hT Kl
     (KJ Kl hT LX (Cf hh D hz #[o,ho] zI p1 p2 q1 q2 hend λh' e hk he=>?_) (LO _))))
   let#[o',ho',hc']:=he;refine JD (ME (T:="StopIteration") (b:=true) #[o',ho',hc'] isSubtype_stop ?_);exact JQ (hQ _ λc o c1 _ c3 c4 e=>hk c o c1 c3 c4 e)
def ir.at {h h':Heap} {TI TO:Mc}{m:JK Mc} (p:ir h z TI TO m) (ez:∀o,h.get? z=⇑o->h'.get? z=⇑o) (eT:∀o,h.get? TO=⇑o->h'.get? TO=⇑o) (em:∀T,m=⇑T->∀o,h.get? T=⇑o->h'.get? T=⇑o):ir h' z TI TO m:=by
 cases m with
 | none=>let#[a,b,c,d]:=p; show#[ez _ a,b,c,eT _ d]
 | some T=>obtain⟨⟨fb,a⟩,o,ho⟩:=p; show#[#[fb,ez _ a],o,em T rfl _ ho]
end
end PySem
namespace L2
open PySem PySem.Spec PyProof.Rows
section
variable {X:Cx} {pins:List (Mc×Obj)} {σ:St} {H:Hp}
def E4 {A:Around} {R:Result->Mb->Prop} {b1 b2:Bool} {D z TI TO i1 i2 l1 l2:Mc} {ks:List aI} {ys:List V} (hA:A.handled=none) (ap:ZipApart z TI TO i1 i2 l1 l2)
   (h1:d6 b1 X.K H l1 (ks.map kV)) (h2:d6 b2 X.K H l2 ys) (hD:H D=none) (hz:ks.length<=100000) (nD:∀b∈[z,TI,TO,i1,i2],b≠D) (fp:∀b∈[z,TI,TO,i1,i2],∀H',H' b=none->fL X pins H' b)
   (hR:∀s' H',Inv X pins σ H' s'->aA H H'->H' D=⇑(.dK ((ks.zip ys).foldl 0x2 []))->R (.ok (.ret .none)) s') :
   ∀(k i:Nat) (t:Tok) (s:Mb) (Hi:Hp) (m:JK Mc),(ks.zip ys).length - i=k->i<=(ks.zip ys).length->Inv X pins σ Hi s->aA H Hi->Hi D=⇑(.dK (((ks.zip ys).take i).foldl 0x2 [])) ->
     ir s.heap z TI TO m->(∀T,m=⇑T->∃xs,Hi T=⇑(.tup xs))->IsPair s.heap TI ↥i1 ↥i2->bS b1 s.heap i1 l1 i->bS b2 s.heap i2 l2 i->(∀b∈[z,TI,TO,i1,i2],Hi b=none)->TO<s.heap.objs.size ->
     codeAny 0x5 A (.builtin "dict.update.loop" #[[↥D,↥z,.int (i:Nat) t,.none],[]]) R s:=by
 have flen:∀(l:List (aI×V)) (acc:List (aI×V)),(l.foldl 0x2 acc).length<=acc.length+l.length:=by
   intro l
   induction l with
   | nil=>intro acc; simp
   | cons x r ih =>
     intro acc;rw[L3];have h1:=ih (ae acc x.1 x.2);have h2:=fV acc x.1 x.2;simp only[Jo]
     lia
 have big:(100000:Nat)<sizeLine:=by decide
 have hzl:(ks.zip ys).length=min ks.length ys.length:=KZ;have sqS:∀{b:Bool} {l:Mc} {xs:List V} {Hi:Hp},aA H Hi->d6 b X.K H l xs->d6 b X.K Hi l xs:=λ{b} {l} {xs} {Hi} sm h=>by
   cases b with
   | true=>exact sm<*h
   | false=>exact sm.seq h
 intro k
 induction k with
 | zero =>
   intro i t s Hi m hk hi I sm eD zs hm zI p1 p2 fr lTO;have e:i=(ks.zip ys).length:=by lia
   rw[e,Jw] at eD;let#[is1,r1,q1]:=I.sqv (sqS sm h1);let#[is2,r2,q2]:=I.sqv (sqS sm h2);have hl1:=r1.length;have hl2:=r2.length;rw[JE] at hl1;refine Lg mP ?_;rw[Around.under_plainId ic _];show wpAny _ A.in1 (pyNext ↥z >>= _) _ _ s;refine JD (BG (A:=A.in1) hA ap zs zI p1 p2 q1 q2 ?_ λh' hk=>?_)
   . have:ks.length<=i\/ys.length<=i:=by rw[e,hzl]; lia
     rcases this with h|h
     . left; simp; lia
     . right; simp; lia
   . have I1:Inv X pins σ Hi { s with heap:=h' }:=I.turnedL (t':=s.toks) (ch:=[z,TI,TO,i1,i2]) (λb o hb q=>hk b o (λzz=>hb (by simp [zz])) (λzz=>hb (by simp [zz])) (λzz=>hb (by simp [zz])) (λzz=>hb (by simp [zz])) q) λb hb=>fp b hb Hi (fr b hb);show wpAny _ _ (Builtin.Dict.addKeywords D [] >>= _) _ _ _;exact JD (JQ (JQ (hR _ _ I1 sm eD)))
 | succ k ih =>
   intro i t s Hi m hk hi I sm eD zs hm zI p1 p2 fr lTO;have hlt:i<(ks.zip ys).length:=by lia
   have hi1:i<ks.length:=by lia
   have hi2:i<ys.length:=by lia
   let#[is1,r1,q1]:=I.sqv (sqS sm h1);let#[is2,r2,q2]:=I.sqv (sqS sm h2);let#[u,hu,ru]:=r1.get (show(ks.map kV)[i]?=⇑(kV ks[i]) by simp [hi1]);let#[v,hv,rv]:=r2.get (show ys[i]?=some ys[i] by simp [hi2]);have hp:∀b∈[z,TI,TO,i1,i2],∀T,m=⇑T->T≠b:=λb hb T eT q=>by let#[xs,hT]:=hm T eT;rw[q,fr b hb] at hT;cases hT
   refine Lg mP ?_;rw[Around.under_plainId ic _];show wpAny _ A.in1 (pyNext ↥z >>= _) _ _ s;refine JD (CC (A:=A.in1) ap zs (λT eT=>#[hp z 0x6 T eT,hp i1 0x6 T eT,hp i2 0x6 T eT]) zI p1 p2 q1 q2 ↑hu ↑hv λh' zs' p1' p2' pr hs' hk=>?_);have hN:Hi s.heap.objs.size=none:=I.hok.fresh (JN _);have I1:Inv X pins σ (upd Hi s.heap.objs.size (.tup [kV ks[i],ys[i]])) { s with heap:=h' }:=I.turnLaid (t':=s.toks) (ch:=[z,TI,TO,i1,i2]) (λb o hb q=>hk b o (λzz=>hb (by simp [zz])) (λzz=>hb (by simp [zz])) (λzz=>hb (by simp [zz])) (λzz=>hb (by simp [zz])) q) (λb hb=>fp b hb Hi (fr b hb)) (JN _)
     #[by show 2<=sizeLine; decide,[u,v],.cons ru (.cons rv .nil),#[_,pr,13]]
   have nN:∀b∈[z,TI,TO,i1,i2],b<s.heap.objs.size:=by
     have a1:z<s.heap.objs.size:=by
       cases m with
       | none=>exact JX zs.1
       | some T=>obtain⟨⟨fb,a⟩,_⟩:=zs; exact JX a
     intro b hb;simp only[JT,J',or_false] at hb;rcases hb with e|e|e|e|e
     . rw[e]; exact a1
     . rw[e]; exact JX zI
     . rw[e]; exact lTO
     . rw[e]; exact p1.lt
     . rw[e]; exact p2.lt
   have nDN:D≠s.heap.objs.size:=λq=>by rw[q,hN] at eD; cases eD
   have eD1:upd Hi s.heap.objs.size (.tup [kV ks[i],ys[i]]) D=⇑(.dK (((ks.zip ys).take i).foldl 0x2 [])):=by rw[am nDN]; exact eD
   refine JD (K6 (JD (wpAny_tryCatch ?_)));show wpAny _ _ (Builtin.Dict.pairItems ↥s.heap.objs.size) _ _ _;unfold Builtin.Dict.pairItems;refine JD (Kz (T:="tuple") #[_,pr,rfl] ?_);rw[JR #[]];refine JD ?_;show wpAny _ _ (load s.heap.objs.size >>= _) _ _ _;refine JD (wpAny_load pr ?_);refine JQ (JQ ?_);show wpAny _ _ (holding [u,v] (dictSet D u v)) _ _ _;refine K6 ?_;let#[z',hd,vs,rel,dd]:=nF I1.hok eD1;have hl1:=flen ((ks.zip ys).take i) [];have hl2:((ks.zip ys).take i).length<=(ks.zip ys).length:=by rw[Jk]; lia
   simp only[Kt,Nat.zero_add] at hl1;have hzv:vs.length<=sizeLine:=by rw[<- rel.length]; exact z'
   refine wpAny_dictSet_pairs (hsz:=hzv) (im ru) dd λh2' dd2 hs2=>?_;have he:∃q,h2'.get? D=⇑q:=by let#[q,_,_,hq,_]:=dd2; show#[q,hq]
   have hl3:(ae (((ks.zip ys).take i).foldl 0x2 []) ks[i] ys[i]).length<=sizeLine:=by
     have:=fV (((ks.zip ys).take i).foldl 0x2 []) ks[i] ys[i]
     lia
   have I2:=oU (t':=({ s with heap:=h' }:Mb).toks+1) I1 (by rw[eD1]; exact True.intro) hs2 he (rh hl3 hd (rel.put ks[i] rv) dd2);have e3:((ks.zip ys).take (i+1)).foldl 0x2 []=ae (((ks.zip ys).take i).foldl 0x2 []) ks[i] ys[i]:=by rw[KE,K0,JU hlt,List.getElem_zip];rfl
   rw[<- e3] at I2;refine JQ #[plainId_quiet ic _,?_];have up:∀c,c≠D->∀o,h'.get? c=⇑o->h2'.get? c=⇑o:=λc hc o e=>(hs2.2 c hc)\e;refine ih (i+1) 0 _ _ ⇑(m.getD s.heap.objs.size) ∅ ∅ I2 (aA.upd (sm\(aA.new hN)) hD) aG (zs'.at (up _ (nD z 0x6)) (up _ (nD TO 0x6)) λT eT=>up T ?_) (λT eT=>?_) ?_ ?_ ?_ (λb hb=>?_) ?_
   . cases eT;cases m with
     | none=>exact λq=>nDN q.symm
     | some T =>
       let#[xs,hT]:=hm T rfl;intro q;rw[show T=D from q,eD] at hT;cases hT
   . cases eT;cases m with
     | none=>show#[[kV ks[i],ys[i]],by show upd (upd Hi s.heap.objs.size _) D _ s.heap.objs.size=_; rw[am (λq=>nDN q.symm)]; exact aG]
     | some T =>
       let#[xs,hT]:=hm T rfl;show#[xs,?_];show upd (upd Hi s.heap.objs.size _) D _ T=_;rw[am (show T≠D from λq=>by rw[q,eD] at hT; cases hT)];rw[am (show T≠s.heap.objs.size from λq=>by rw[q,hN] at hT; cases hT)];exact hT
   . exact up _ (nD TI 0x6) _ (hk _ _ ap.TIz ap.TITO ap.TIi1 ap.TIi2 zI)
   . exact p1'.at (up _ (nD i1 0x6))
   . exact p2'.at (up _ (nD i2 0x6))
   . rw[am (nD b hb),am (Js (nN b hb))];exact fr b hb
   . show TO<h2'.objs.size;rw[hs2.1];show TO<h'.objs.size;rw[hs'];exact Nat.lt_succ_of_lt lTO
abbrev pk (b1 b2:Bool) (K:Md):List V->Hp->VK->Prop:=λxs H Q=>∃(l1 l2:Mc) (ks:List aI) (ys:List V),xs=[↥l1,↥l2]/\d6 b1 K H l1 (ks.map kV)/\d6 b2 K H l2 ys/\ks.length<=100000 /\
 ∀d H',H d=none->aA H H'->H' d=⇑(.dK ((ks.zip ys).foldl 0x2 []))->Q ↥d H'
def Dh {s:Mb} {b1 b2:Bool} {l1 l2:Mc} {Q:VK} (hc:X.calm=true) (I:Inv X pins σ H s) (h:pk b1 b2 X.K [↥l1,↥l2] H Q) :
   wpAny 0x5 X.A (call (.type "zip") [↥l1,↥l2]) (λv s1=>wpAny 0x5 X.A (call (.type "dict") [v]) (EP X pins σ Q) X.xe s1) X.xe s:=by
 let#[l1',l2',ks,ys,e,h1,h2,hz,q]:=h;cases e;let#[is1,v1,p1]:=I.sqv h1;let#[is2,v2,p2]:=I.sqv h2;refine xM p1 p2 λh' n hn hzp hTI hTO i1 i2 hk=>?_;subst hn;have hA:=I.ok.hd hc;generalize hs1:({ s with heap:=h' }:Mb)=s1;have ehp:s1.heap=h':=by rw[<- hs1]
 have I0:Inv X pins σ H s1:=by rw[<- hs1]; exact I.kept (t':=s.toks) hk
 have hD:H s1.heap.objs.size=none:=I0.hok.fresh (JN _);have I1:Inv X pins σ (upd H s1.heap.objs.size (.dK [])) { s1 with heap:=s1.heap.push { cls:=.type "dict",data:=.dict 0xA } } :=
   I0.laid (a:=s1.heap.objs.size) (o:=.dK []) (t':=s1.toks) (λ_ _ q=>JJ _ q) (JN _) (sO s1.heap I0.big)
 refine callType_codes (Q₁:=λobj s₁=>obj=↥s1.heap.objs.size/\s₁={ s1 with heap:=s1.heap.push { cls:=.type "dict",data:=.dict 0xA } }) PySem.F.kt_called_dict (M1 _) ML (kt_code_dict_new _ #[7]) ?_;rintro obj s₁ ⟨rfl,rfl⟩;have hnew:(s1.heap.push { cls:=.type "dict",data:=.dict 0xA }).DictOf (cN X.prog X.w) s1.heap.objs.size []:=Heap.DictOf.new s1.heap;show#[hnew.typeIs,MD _ _,?_];unfold Builtin.«dict.__init__»;refine JD ?_;unfold Builtin.Dict.selfAndRest;refine JD (wpAny_notOrdered_dict hnew.typeIs ?_);show wpAny _ _ (pure (s1.heap.objs.size,[Value.ref (s.heap.objs.size+4)])) _ _ _;refine JQ ?_;show wpAny _ _ (Builtin.Dict.updateFrom "dict.__init__" s1.heap.objs.size ↥(s.heap.objs.size+4) [] .none) _ _ _;unfold Builtin.Dict.updateFrom;have hzp1:(s1.heap.push { cls:=.type "dict",data:=.dict 0xA }).get? (s.heap.objs.size+4)=some { cls:=.type "zip",dict:=none,data:=.fields (List.toArray [.none,.bool false,.bool false,↥(s.heap.objs.size+2),↥(s.heap.objs.size+3)]),slots:=0xA }:=JJ _ (by rw[ehp]; exact hzp);refine JD (Kz (T:="zip") #[_,hzp1,rfl] ?_);rw[JR #[]];refine JD (DP (s:={ s1 with heap:=s1.heap.push { cls:=.type "dict",data:=.dict 0xA } }) hzp1 rfl rfl rfl hA λh3 tk hk3=>?_);have I2:Inv X pins σ (upd H s1.heap.objs.size (.dK [])) { s1 with heap:=h3,toks:=tk }:=I1.kept hk3;rw[JR 0x0];refine JD (Lh ?_);have up:∀b o,h'.get? b=⇑o->h3.get? b=⇑o:=λb o e=>hk3 _ _ (JJ _ (show s1.heap.get? b=⇑o by rw[ehp]; exact e));refine JD (MG (s:={ s1 with heap:=h3,toks:=tk }) (up _ _ hzp) ?_);have fF:∀b∈[s.heap.objs.size+4,s.heap.objs.size+2,s.heap.objs.size+3,s.heap.objs.size,s.heap.objs.size+1],s.heap.objs.size<=b/\b<s1.heap.objs.size:=λb hb=>by
   have h4:s.heap.objs.size+4<s1.heap.objs.size:=by rw[ehp]; exact JX hzp
   simp only[JT,J',or_false] at hb;rcases hb with e|e|e|e|e <;> (rw[e]; constructor <;> lia)
 refine JQ #[plainId_quiet ic _,?_];have fpk:∀b∈[s.heap.objs.size+4,s.heap.objs.size+2,s.heap.objs.size+3,s.heap.objs.size,s.heap.objs.size+1],∀H',H' b=none->fL X pins H' b:=λb hb H' hn=>I.fpOk (fF b hb).1 hn;refine E4 (A:=X.A.in1) (H:=H) (D:=s1.heap.objs.size) hA (zipApart_new (bn.lt p1) (bn.lt p2)) h1 h2 hD hz (λb hb=>Js (fF b hb).2) fpk (λs' H' J sm eD=>#[rfl,↥s1.heap.objs.size,H',J,rfl,q _ H' hD sm eD])
   (ks.zip ys).length 0 0 _ (upd H s1.heap.objs.size (.dK [])) none ∅ (Jm _) I2 (aA.new hD) (by rw[aG]; rfl) #[up _ _ hzp,4,up _ _ hTO] (λT z=>by cases z) (up _ _ hTI) (i1.at λo e=>up _ o e) (i2.at λo e=>up _ o e) (λb hb=>?_) ?_
 . rw[am (Js (fF b hb).2)];exact I.hok.fresh (fF b hb).1
 . exact JX (up _ _ hTO)
def Et (b1 b2:Bool) {a b:Expr} {ta:TA} {p pos p' pos':Pos} (hc:X.calm=true) (hg:Gl X "dict") (hm:X.mg "dict"=none) (hg2:Gl X "zip") (hm2:X.mg "zip"=none) (ha:PA X [a,b] ta)
   (hs:starEach [a,b] X.env=(false,eval a X.env)::starEach [b] X.env:=by rfl) (hs2:(backTo pos' (starEach [b] X.env)).any (·.1)=false:=by rfl)
   (he:starEach [.Call (.Name "zip" p') [a,b] [] pos'] X.env=[(false,eval (.Call (.Name "zip" p') [a,b] [] pos') X.env)]:=by rfl) :
   PE X (.Call (.Name "dict" p) [.Call (.Name "zip" p') [a,b] [] pos'] [] pos) (jg (pk b1 b2 X.K) ta):=by
 intro pins s σ H Q I h;refine Kq (fY I hg hm kW ?_);refine Jv ?_ he rfl;rw[he];show wpAny _ _ (spliced [(false,eval (.Call (.Name "zip" p') [a,b] [] pos') X.env)]) _ _ s;refine Calls.spliced_cons (Call_ (fY I hg2 hm2 uR (Jv (al (ha pos' pins s σ H _ I h) λus s1 z201_=>?_) hs hs2)));let#[vs,H1,I1,r1,q1]:=z201_;let#[l1,l2,ks,ys,e,q]:=id q1;subst e;cases r1 with
 | cons r rr =>
   cases rr with
   | cons r' rr =>
     cases rr;cases r;cases r';exact al (Dh hc I1 q1) λv s2 q2=>Calls.spliced_nil q2
end
variable {p:Mc}
section
variable {g:TG} {tif:TT} {te:TE} {js:List (JK Nat)} {σ:St} {H:Hp} {Q:VK}
abbrev kN (H:Hp) (p:Mc) (T:Nat->Hp->V->Prop) (i:Nat) (acc:List V) (H2:Hp):Prop:=aA H H2/\H2 p=⇑(.lst acc)/\acc.length=i/\∀(j:Nat) v,acc[j]?=⇑v->T j (ers p H2) v
def Dn {H:Hp} {o:HO}:ers p (upd H p o)=ers p H:=by
 funext b;unfold ers;by_cases h:b=p
 . rw[JR h,JR h]
 . rw[JI h,JI h,am h]
def sQ {T:Nat->Hp->V->Prop} {i:Nat} {acc:List V} {H2 H3:Hp} {v:V} (tm:∀i v H H',aA H H'->T i H v->T i H' v) (hp:H p=none) (r:kN H p T i acc H2) (s3:aA H2 H3) (hv:T i (ers p H3) v) :
   H3 p=⇑(.lst acc)/\kN H p T (i+1) (acc++[v]) (upd H3 p (.lst (acc++[v]))):=by
 let#[s2,e2,rfl,ht]:=r;show#[s3 _ _ e2,(s2\s3).upd hp,aG,by simp,λj u hu=>?_];rw[Dn];by_cases hj:j<acc.length
 . rw[KM hj] at hu;exact tm _ _ _ _ (aA.ers s3) (ht j u hu)
 . have:j=acc.length:=by
     have:=(JH.mp hu).1;simp at this
     lia
   subst this;rw[Jf (JN _)] at hu;simp at hu;rw[<- hu];exact hv
def iR {K:Md} {a:Mc} {xs:List V} (T:Nat->Hp->V->Prop) (tm:∀i v H H',aA H H'->T i H v->T i H' v) (hn:xs.length<=1000000) (hS:aE K H a xs) (hp:H p=none)
   (hs:∀i x H2 (R:VK),xs[i]?=⇑x->aA H H2->(∃acc,H2 p=⇑(.lst acc))->(∀v H3,aA H2 H3->T i (ers p H3) v->R v H3)->g x (cH js σ) H2 λσ2 H3=>tif σ2 H3 λc H4=>if c=true then te σ2 H4 R else False)
   (hd:∀H2 vs,aA H H2->H2 p=⇑(.lst vs)->vs.length=xs.length->(∀(i:Nat) v,vs[i]?=⇑v->T i (ers p H2) v)->Q ↥p H2) (mono:∀x H2 (M M':St->Hp->Prop),(∀σ' H',M σ' H'->M' σ' H')->g x (cH js σ) H2 M->g x (cH js σ) H2 M':=by intro _ _ _ _ h z; exact h _ _ z) (mon2:∀σ2 H2 (M M':Bool->Hp->Prop),(∀c H',M c H'->M' c H')->tif σ2 H2 M->tif σ2 H2 M':=by intro _ _ _ _ h z; exact h _ _ z) :
   i5 (jC K a) g tif te js σ Q p H:=by
 refine jT hn (kN H p T) #[aA.new hp,aG,rfl,λj v h=>by simp at h] ?_ ?_ ?_
 . rintro i acc H2 hi ⟨s2,e2,l2,_⟩;show#[e2,∅,s2.seq hS]
 . rintro i x acc H2 hx r;refine mono _ _ _ _ (λσ' H' z=>?_) (hs i x H2 _ hx r.1 #[acc,r.2.1] λv H3 s3 t3=>sQ tm hp r s3 t3);refine mon2 _ _ _ _ (λc H'' zz=>?_) z;cases c with
   | true=>exact zz
   | false=>exact zz.elim
 . rintro acc H2 ⟨s2,e2,l2,t2⟩;exact hd H2 acc s2 e2 l2 t2
def pq {K:Md} {a:Mc} {xs:List V} (T:Nat->Hp->V->Prop) (tm:∀i v H H',aA H H'->T i H v->T i H' v) (hn:xs.length<=1000000) (hS:aD K H a xs) (hp:H p=none)
   (hs:∀i x H2 (R:VK),xs[i]?=⇑x->aA H H2->(∃acc,H2 p=⇑(.lst acc))->(∀v H3,aA H2 H3->T i (ers p H3) v->R v H3)->g x (cH js σ) H2 λσ2 H3=>tif σ2 H3 λc H4=>if c=true then te σ2 H4 R else False)
   (hd:∀H2 vs,aA H H2->H2 p=⇑(.lst vs)->vs.length=xs.length->(∀(i:Nat) v,vs[i]?=⇑v->T i (ers p H2) v)->Q ↥p H2) (mono:∀x H2 (M M':St->Hp->Prop),(∀σ' H',M σ' H'->M' σ' H')->g x (cH js σ) H2 M->g x (cH js σ) H2 M':=by intro _ _ _ _ h z; exact h _ _ z) (mon2:∀σ2 H2 (M M':Bool->Hp->Prop),(∀c H',M c H'->M' c H')->tif σ2 H2 M->tif σ2 H2 M':=by intro _ _ _ _ h z; exact h _ _ z) :
   i5 (j3 K a) g tif te js σ Q p H:=by
 refine vA hn (kN H p T) #[aA.new hp,aG,rfl,λj v h=>by simp at h] ?_ ?_ ?_
 . rintro i acc H2 hi ⟨s2,e2,l2,_⟩;show#[e2,∅,s2<*hS]
 . rintro i x acc H2 hx r;refine mono _ _ _ _ (λσ' H' z=>?_) (hs i x H2 _ hx r.1 #[acc,r.2.1] λv H3 s3 t3=>sQ tm hp r s3 t3);refine mon2 _ _ _ _ (λc H'' zz=>?_) z;cases c with
   | true=>exact zz
   | false=>exact zz.elim
 . rintro acc H2 ⟨s2,e2,l2,t2⟩;exact hd H2 acc s2 e2 l2 t2
def rS {lo:Int} {n:Nat} (T:Nat->Hp->V->Prop) (tm:∀i v H H',aA H H'->T i H v->T i H' v) (hn:n<=1000000) (hp:H p=none)
   (hs:∀i H2 (R:VK),i<n->aA H H2->(∃acc,H2 p=⇑(.lst acc))->(∀v H3,aA H2 H3->T i (ers p H3) v->R v H3)->g (.int (lo+i)) (cH js σ) H2 λσ2 H3=>tif σ2 H3 λc H4=>if c=true then te σ2 H4 R else False)
   (hd:∀H2 vs,aA H H2->H2 p=⇑(.lst vs)->vs.length=n->(∀(i:Nat) v,vs[i]?=⇑v->T i (ers p H2) v)->Q ↥p H2) (mono:∀x H2 (M M':St->Hp->Prop),(∀σ' H',M σ' H'->M' σ' H')->g x (cH js σ) H2 M->g x (cH js σ) H2 M':=by intro _ _ _ _ h z; exact h _ _ z) (mon2:∀σ2 H2 (M M':Bool->Hp->Prop),(∀c H',M c H'->M' c H')->tif σ2 H2 M->tif σ2 H2 M':=by intro _ _ _ _ h z; exact h _ _ z) :
   i5 (gh lo n) g tif te js σ Q p H:=by
 refine oz hn (kN H p T) #[aA.new hp,aG,rfl,λj v h=>by simp at h] ?_ ?_ ?_
 . rintro i acc H2 hi ⟨s2,e2,l2,_⟩;show#[e2,∅]
 . rintro i acc H2 hx r;refine mono _ _ _ _ (λσ' H' z=>?_) (hs i H2 _ hx r.1 #[acc,r.2.1] λv H3 s3 t3=>sQ tm hp r s3 t3);refine mon2 _ _ _ _ (λc H'' zz=>?_) z;cases c with
   | true=>exact zz
   | false=>exact zz.elim
 . rintro acc H2 ⟨s2,e2,l2,t2⟩;exact hd H2 acc s2 e2 l2 t2
end
end L2
namespace Wk
open PySem L2 Gx Fl
abbrev jq (F:F2.Fd) (k j r:Nat):Prop:=∃l,K13.Due (F2.kds F) k ⇑l/\l[j]?=⇑r
section
variable {K:Md} {C x:Mc} {H:Hp} {fns:List F2.Fd} {F:F2.Fd}
abbrev mm (C:Mc) (H:Hp) (x:Mc) (fld:Str) (n:Str) (v:V):Prop:=∃dx fs d kvs,H x=⇑(.ins C dx fs)/\fs.lookup fld=⇑↥d/\H d=⇑(.dK kvs)/\bM kvs (Sum.inr n:aI)=⇑v
def jD {H:Hp} {d:Mc} {kvs:List (aI×V)} {n:Str} {v:V} (h:H d=⇑(.dK kvs)) (hv:bM kvs (Sum.inr n:aI)=⇑v):eJ H d (.str n) ⇑v:=by have:=eJ.k (k:=(Sum.inr n:aI)) h;rw[hv] at this;exact this
def Ah (h:F2.FlowsAt K C H x fns) (hF:F∈fns):mm C H x "rows_of" F.name ↥F.ra:=by let#[i,hi]:=Jp hF;let#[dx,fz,d,kv,nl,wl,h0,hO,h2,h3,h4,h5,h6,h7,h8]:=h.ob;have hd:=hO.dc 3 #[];rw[h5] at hd;show#[dx,8,hO.ob,tT _ _,hd,F2.kD_at _ h.nd hi]
def FH (h:F2.FlowsAt K C H x fns) (hF:F∈fns):mm C H x "params_of" F.name ↥F.pa:=by let#[i,hi]:=Jp hF;let#[dx,fz,d,kv,nl,wl,h0,hO,h2,h3,h4,h5,h6,h7,h8]:=h.ob;have hd:=hO.dc 2 #[];rw[h4] at hd;show#[dx,8,hO.ob,vf _ _,hd,F2.kD_at _ h.nd hi]
def tX (h:F2.FlowsAt K C H x fns) (hF:F∈fns):∃nl,mm C H x "names_in" F.name ↥nl/\H nl=⇑(.lst ((F2.nms F).map V.str)):=by let#[i,hi]:=Jp hF;let#[dx,fz,d,kv,nl,wl,h0,hO,h2,h3,h4,h5,h6,h7,h8]:=h.ob;have hd:=hO.dc 4 #[];rw[h6] at hd;show#[nl i,#[dx,8,hO.ob,xi _ _,hd,F2.kD_at _ h.nd hi],(h8 i F hi).1]
def CL (h:F2.FlowsAt K C H x fns) (hF:F∈fns) {k j r:Nat} (hk:k<F.rs.length) (hw:jq F k j r):∃wl tp vs l,mm C H x "ways_in" F.name ↥wl/\H wl=⇑(.lst vs)/\vs[k]?=⇑↥tp/\H tp=⇑(.tup (K13.natsV l))/\l[j]?=⇑r:=by
 let#[i,hi]:=Jp hF;let#[dx,fz,d,kv,nl,wl,h0,hO,h2,h3,h4,h5,h6,h7,h8]:=h.ob;have hd:=hO.dc 5 #[];rw[h7] at hd;let#[vs,e1,e2,e3]:=(h8 i F hi).2;have hl:(F2.kds F).length=F.rs.length:=by unfold F2.kds; rw[JE]
 have ev:vs[k]?=some vs[k]:=JU ∅;let#[o,due,vo]:=e3 k _ ev;let#[l,dl,hl']:=hw;rw[K13.Due.uniq due dl] at vo;let#[p,ep,hp]:=vo;show#[wl i,p,vs,l,#[dx,8,hO.ob,wM _ _,hd,F2.kD_at _ h.nd hi],e1,by rw[ev,ep],hp,hl']
end
def u9 (kvs:List (aI×V)) (k:aI) (v:V):(ae kvs k v).length<=kvs.length+1:=by
 induction kvs with
 | nil=>simp [ae]
 | cons p r ih =>
   unfold ae;split <;> simp <;> lia
end Wk
namespace L2
open PySem PySem.Spec PyProof.Rows
def bU.or2 {X:Cx} {f:Ma->Ma->Sem Ma} {r1 r2:R2} (h1:bU X f r1) (h2:bU X f r2):bU X f (λx y H Q=>r1 x y H Q\/r2 x y H Q):=by
 intro pins s σ H x y v u Q I rx ry h;rcases h with h|h
 . exact h1 pins s σ H x y v u Q I rx ry h
 . exact h2 pins s σ H x y v u Q I rx ry h
abbrev sI (K:Md):R2:=λx y H Q=>vz K x y H Q\/xn K x y H Q
def vG {X:Cx}:bU X (binaryOp .Add) (sI X.K):=bU.or2 BA DO
def uj {K:Md} {H:Hp} {a b:Mc} {xs ys:List V} {Q:VK} (ha:aD K H a xs) (hb:H b=⇑(.tup ys)) (hy:ys≠[]) (hl:xs.length+ys.length<=sizeLine) (q:∀p H',aA H H'->H' p=⇑(.tup (xs++ys))->Q ↥p H'):sI K ↥a ↥b H Q:=by
 by_cases hx:xs=[]
 . subst hx;exact .inl #[a,b,ys,7,ha,aD.of hb,q b H (aA.refl _) hb]
 . exact .inr #[a,b,xs,ys,7,ha,aD.of hb,hx,hl,λz=>absurd z hy,λ_ p hp=>q p _ (aA.new hp) aG]
end L2
namespace Wk
open PySem L2 Gx Fl K41 Bg
inductive RG where
 | out (a:V)|copy (x:Str) (a:V)|op (x s:Str) (a b:V)|back (a:V)|new (x:Str)|get (x:Str) (a:V) (f:Str)|put (a:V) (f:Str) (b:V)|call (x g:Str) (p:Addr) (as:List V)|ifs (a:V)|whl (a:V)
abbrev RG.items:RG->List V
 | .out a=>[.str "out",a]
 | .copy x a=>[.str "copy",.str x,a]
 | .op x s a b=>[.str "op",.str x,.str s,a,b]
 | .back a=>[.str "back",a]
 | .new x=>[.str "new",.str x]
 | .get x a f=>[.str "get",.str x,a,.str f]
 | .put a f b=>[.str "put",a,.str f,b]
 | .call x g p _=>[.str "call",.str x,.str g,↥p]
 | .ifs a=>[.str "if",a]
 | .whl a=>[.str "while",a]
abbrev RG.kind:RG->Str
 | .out _=>"out"
 | .copy _ _=>"copy"
 | .op _ _ _ _=>"op"
 | .back _=>"back"
 | .new _=>"new"
 | .get _ _ _=>"get"
 | .put _ _ _=>"put"
 | .call _ _ _ _=>"call"
 | .ifs _=>"if"
 | .whl _=>"while"
abbrev RG.gx:RG->JK Str
 | .copy x _=>⇑x
 | .op x _ _ _=>⇑x
 | .new x=>⇑x
 | .get x _ _=>⇑x
 | .call x _ _ _=>⇑x
 | _=>none
abbrev RG.as:RG->List V
 | .out a=>[a]
 | .copy _ a=>[a]
 | .op _ _ a b=>[a,b]
 | .back a=>[a]
 | .new _=>[]
 | .get _ a _=>[a]
 | .put a _ b=>[a,b]
 | .call _ _ _ as=>as
 | .ifs a=>[a]
 | .whl a=>[a]
abbrev RG.cl:RG->Str
 | .call _ g _ _=>g
 | _=>""
abbrev RG.rr (r:Mc) (rg:RG):RR:=#[#[r,rg.kind,rg.cl],#[r,(0),(0),rg.gx,rg.as]]
abbrev RG.parts (rg:RG):List V:=(rg.gx.toList.map V.str)++rg.as
structure RGAt (K:W.Frag) (H:Hp) (r:Addr) (rg:RG):Prop where
 it:aD K H r rg.items
 ar:∀x g p as,rg=.call x g p as->aD K H p as
structure RG.Ok (rg:RG):Prop where
 at_:∀v∈rg.parts,K12.Atom v
 sg:∀x s a b,rg=.op x s a b->PyData.strOk s=true
 fl:(∀x a f,rg=.get x a f->PyData.strOk f=true)/\∀a f b,rg=.put a f b->PyData.strOk f=true
 cl:∀x g p as,rg=.call x g p as->PyData.strOk g=true/\as.length<=10
def gat {x:Str} (h:K12.Atom (.str x)):K12.Nm x:=by
 rcases h with⟨s,e,h⟩|⟨i,e⟩
 . cases e; exact h
 . cases e
variable {rg:RG}
def F5 {K:Md} {H:Hp} {r:Mc} (h:RGAt K H r rg):K12.RowS K H rg.items rg.gx rg.as:=by
 cases rg with
 | out a=>exact .out a
 | copy x a=>exact .copy x a
 | op x s a b=>exact .op x s a b
 | back a=>exact .back a
 | new x=>exact .new x
 | get x a f=>exact .get x a f
 | put a f b=>exact .put a f b
 | call x g p as=>exact .call x g p as (h.ar x g p as rfl)
 | ifs a=>exact .ifs a
 | whl a=>exact .whl a
def Fb (ok:rg.Ok):rg.as.length<=10:=by
 cases rg with
 | call x g p as=>exact(ok.cl x g p as rfl).2
 | _=>simp [RG.as]
def rq {K:Md} {H:Hp} {r:Mc} (h:RGAt K H r rg) (ok:rg.Ok):qT K H (rg.rr r):=by
 show#[rfl,?_,#[#[_,h.it,F5 h],λv hv=>ok.at_ v (Jq _ hv),Fb ok,λx hx=>?_]]
 . have ne:∀k∈([("out":Str),"copy","op","back","new","get","put","if","while"]:List Str),¬ k="call":=by decide +kernel
   cases rg with
   | call x g p as=>show#[_,h.it,λ_=>#[9]]
   | out a=>show#[_,h.it,λz=>absurd z (ne "out" 0x6)]
   | copy x a=>show#[_,h.it,λz=>absurd z (ne "copy" 0x6)]
   | op x s a b=>show#[_,h.it,λz=>absurd z (ne "op" 0x6)]
   | back a=>show#[_,h.it,λz=>absurd z (ne "back" 0x6)]
   | new x=>show#[_,h.it,λz=>absurd z (ne "new" 0x6)]
   | get x a f=>show#[_,h.it,λz=>absurd z (ne "get" 0x6)]
   | put a f b=>show#[_,h.it,λz=>absurd z (ne "put" 0x6)]
   | ifs a=>show#[_,h.it,λz=>absurd z (ne "if" 0x6)]
   | whl a=>show#[_,h.it,λz=>absurd z (ne "while" 0x6)]
 . have hx:rg.gx=⇑x:=hx;refine gat (ok.at_ (.str x) (KB _ ?_));rw[hx];simp
end Wk
namespace L2
open PySem PySem.Spec PyProof.Rows
def nw {H X:Hp} {a:Mc} {o:HO} (e:upd H a o=X) (h:H a=none):aA H X/\X a=⇑o:=by subst e; show#[aA.new h,aG]
def iN {c A B:Prop} [Decidable c] (h:B) (hc:¬ c:=by decide +kernel):if c then A else B:=aX hc h
def iP {c A B:Prop} [Decidable c] (h:A) (hc:c:=by decide +kernel):if c then A else B:=aL hc h
def jN {c A B:Prop} [Decidable c] (h:B) (hc:¬ c:=by decide):if c then A else B:=aX hc h
section
variable {g:TG} {tif:TT} {te:TE} {js:List (JK Nat)} {σ:St} {H:Hp} {Q:VK}
def Ht {b1 b2:Bool} {K:Md} {l1 l2:Mc} {xs ys:List V} {p:Mc} (hn:xs.length<=1000000) (Pv:Nat->List V->Hp->Prop) (h0:Pv 0 [] (upd H p (.lst [])))
   (hl:∀i acc H2,i<=min xs.length ys.length->Pv i acc H2->H2 p=⇑(.lst acc)/\acc.length<=i/\d6 b1 K H2 l1 xs/\d6 b2 K H2 l2 ys)
   (hs:∀i x y acc H2 b,xs[i]?=⇑x->ys[i]?=⇑y->Pv i acc H2->H2 b=none->nQ g tif te (cH js σ) p acc (Pv (i+1)) ↥b (upd H2 b (.tup [x,y]))) (hd:∀acc H2,Pv (min xs.length ys.length) acc H2->Q ↥p H2) :
   i5 (jf K b1 b2 l1 l2) g tif te js σ Q p H:=by
 show#[λi m acc H=>m=min xs.length ys.length - i/\i<=min xs.length ys.length/\Pv i acc H,#[min xs.length ys.length,by simp,Jm _,h0],?_];rintro i m acc H2 ⟨rfl,hi,q⟩;let#[q1,q2,q3,q4]:=hl i acc H2 hi q;show#[q1,?_];by_cases hlt:i<min xs.length ys.length
 . have l1':i<xs.length:=by lia
   have l2':i<ys.length:=by lia
   refine .inr #[#[xs,ys,xs[i],ys[i],q3,q4,by simp [l1'],by simp [l2']],?_,Pv (i+1),λacc' H' p'=>#[min xs.length ys.length - (i+1),∅,rfl,hlt,p'],λx H' y=>?_]
   . have:(1000000:Nat)<sizeLine:=by decide
     lia
   . let#[b,rfl,hb,y]:=y;rw[y xs ys xs[i] ys[i] q3 q4 (by simp [l1']) (by simp [l2'])];exact hs i xs[i] ys[i] acc H2 b (by simp [l1']) (by simp [l2']) q hb
 . have e:i=min xs.length ys.length:=by lia
   subst e;refine .inl #[#[xs,ys,q3,q4,?_],hd acc H2 q];rcases Nat.le_total xs.length ys.length with h|h
   . left; rw[MS h]; exact Ku (JN _)
   . right; rw[MH h]; exact Ku (JN _)
end
end L2
namespace L2
open PySem PySem.Spec PyProof.Rows PySem.W
section
variable {prog:Program} {w:World} {A:Around} {E:Ma->Mb->Prop} {s:Mb} {δ:Type} {R:δ->Ma->Prop} {a:Mc} {D:List (Str×δ)} {k:Str} {tk:Tok} {d:δ}
def Fj {Q:Ma->Mb->Prop} (T:KTD.TabOf R s.heap a D) (h:Q (.bool (KTD.datumAt k D).isSome) { s with toks:=s.toks+1 }) :
   wpAny 0x9 A (compareOp .In (.str k tk) ↥a) Q E s:=by
 have ty:=nB T;let#[hsm,o,es,ep,ho,hc,hdt,hr]:=T;unfold compareOp;show wpAny _ _ (contains ↥a (.str k tk) >>= λb=>pure (Value.bool b)) _ _ s;refine JD (wpAny_contains_slot ty slot_dict_contains (KJ slot_dict_contains ty entry_dict_contains ?_ (args_dict_contains _ _)));unfold Builtin.«dict.__contains__»;show wpAny _ _ (dictGet a (.str k tk) >>= λr=>if r.isSome=true then ret (Value.bool true) else Builtin.Dict.pendingKey? a (.str k tk) >>= λr=>match r with|some _=>ret (Value.bool true)|none=>ret (Value.bool false)) _ _ s;have hf:findBy (λk v=>v.isStr k) es k=(es.toList.find? λe=>e.key.isStr k).map (·.val):=by obtain⟨l⟩:=es;simp [findBy]
 refine JD ?_;unfold dictGet
 try with_reducible refine K6 ?_
 refine JD (M9 (JD (KTD.kt_dictFind_strs (s:={ s with toks:=s.toks+1 }) ho hdt (by obtain⟨l⟩:=es; simpa using hr.exact) ?_)));rw[findBy_of_findIdx?] at hf;cases hq:KTD.datumAt k D with
 | some d =>
   let#[v,hv,_]:=hr.find_some hq;rw[hv] at hf;cases hi:es.findIdx? λe=>e.key.isStr k with
   | none=>rw[hi] at hf; cases hf
   | some i =>
     rw[hi] at hf;have hf:es[i]?.map (·.val)=⇑v:=hf;refine JD (wpAny_dictEntries (s:={ s with toks:=s.toks+1 }) ho hdt (JQ ?_));show wpAny _ _ _ _ _ _;rw[hf];show wpAny _ _ (ret (Value.bool true)) _ _ _;rw[hq] at h;exact JQ #[5,KY (JQ h)]
 | none =>
   have hv:=hr.find_none hq;rw[hv] at hf;cases hi:es.findIdx? λe=>e.key.isStr k with
   | some i =>
     exfalso;rw[hi] at hf;have hf:es[i]?.map (·.val)=none:=hf;have:=(Array.findIdx?_eq_some_iff_getElem.mp hi).1;rw[Array.getElem?_eq_getElem this] at hf;cases hf
   | none =>
     refine JQ ?_;show wpAny _ _ (Builtin.Dict.pendingKey? a (.str k tk) >>= λr=>match r with|some _=>ret (Value.bool true)|none=>ret (Value.bool false)) _ _ _;unfold Builtin.Dict.pendingKey?;rw[hq] at h;dsimp only;rw[JI (by rw[hsm]; exact Je)];exact JD (JQ (JQ #[5,KY (JQ h)]))
end
abbrev nT (K:Md) (d:Mc) (rows:List (Str×Int)):Prop :=
 ∃(o:Obj) (es:Array DictEntry) (ep:Nat),K.lookup d=⇑o/\(d==sysModules)=false/\o.ExactDict/\o.data=.dict es ep/\KTD.Rows (λ(i:Int) v=>∃t,v=.int i t) es.toList rows
abbrev BM (K:Md):R2:=λx y H Q=>∃d rows k i,x=↥d/\y=.str k/\nT K d rows/\KTD.datumAt k rows=⇑i/\Q (.int i) H
def Ev {X:Cx}:fE X (BM X.K):=by
 intro value slice pins s σ H x y v u Q I rx ry h hs;obtain⟨d,rows,k,i,rfl,rfl,⟨o,es,ep,ho,lo,hc,hd,hr⟩,hk,q⟩:=h;cases (show v=Value.ref d from rx);let#[t,rfl]:=(show ∃t,u=Value.str k t from ry)
 have T:KTD.TabOf (λ(i:Int) v=>∃t,v=.int i t) s.heap d rows:=#[lo,o,es,ep,I.kIn d o ho,hc,hd,hr]
 refine tail_any (nB T) slot_dict_getitem.lookup (wJ T hk λv hv=>?_) hs;let#[t',rfl]:=hv;show#[.int i,H,I.tok _,#[5],q]
abbrev E5 (K:Md):R2:=λx y H Q=>∃d rows k,x=.str k/\y=↥d/\nT K d rows/\Q (.bl (KTD.datumAt k rows).isSome) H
def FB {X:Cx}:bU X (compareOp .In) (E5 X.K):=by
 intro pins s σ H x y v u Q I rx ry h;obtain⟨d,rows,k,rfl,rfl,⟨o,es,ep,ho,lo,hc,hd,hr⟩,q⟩:=h;cases (show u=Value.ref d from ry);let#[t,rfl]:=(show ∃t,v=Value.str k t from rx)
 have T:KTD.TabOf (λ(i:Int) v=>∃t,v=.int i t) s.heap d rows:=#[lo,o,es,ep,I.kIn d o ho,hc,hd,hr]
 exact Fj T #[.bl _,H,I.tok _,rfl,q]
end L2
namespace L2
open PySem PySem.Spec PyProof.Rows
abbrev nY (K:Md) (i:Int) (v:Ma):Bool:=match v with
 | .int j _=>decide (i=j)
 | _=>false
def GP {K:Md} (i:Int) (v:Ma) (h:nY K i v=true):∃t,v=.int i t:=by
 unfold nY at h;split at h
 . rename_i j t
   show#[t,by rw[Ke h]]
 . cases h
def Hl {K:Md} {d:Mc} {rows:List (Str×Int)} (h:KTD.tabLook (nY K) (λa=>K.lookup a) d rows=true):nT K d rows:=by
 simp only[KTD.tabLook,Jl] at h;let#[h0,hl]:=h;split at hl
 . rename_i o ho
   simp only[Jl] at hl;obtain⟨⟨⟨e1,e2⟩,e3⟩,e4⟩:=hl;split at e4
   . rename_i es ep hd
     show#[o,es,ep,ho,by simpa using h0,#[beq_iff_eq.mp e1,by simpa using e2,by simpa using e3],hd,KTD.rows_of_look GP e4]
   . cases e4
 . cases hl
end L2
namespace St
open PySem L2 Gx Rk2 Bg Fl Wk
abbrev cy (K:Md) (H:Hp) (c:Str×Nat) (v:V):Prop:=∃p,v=↥p/\aD K H p [.str c.1,.int c.2]
abbrev cX (K:Md) (H:Hp) (ch:List (Str×Nat)) (v:V):Prop:=∃p cs,v=↥p/\aD K H p cs/\Ps (cy K H) cs ch
abbrev gy (K:Md) (H:Hp) (vw:List (JK Tr)) (v:V):Prop:=∃l us,v=↥l/\aE K H l us/\Ps (aO H) us vw
structure Mrk where
 ch:List (Str×Nat)
 vs:List (List (Option Tr))
abbrev gW (K:Md) (H:Hp) (m:Mrk) (v:V):Prop:=∃p c w ws,v=↥p/\aD K H p [c,↥w]/\cX K H m.ch c/\aE K H w ws/\Ps (gy K H) ws m.vs
noncomputable abbrev Lv:=Str->JK (JK Tr)
variable {v:V}
section
variable {K:Md} {H H':Hp}
def cy.mono {c:Str×Nat} (e:aA H H') (h:cy K H c v):cy K H' c v:=by let#[p,h1,h2]:=h; show#[p,h1,e<*h2]
def cX.mono {ch:List (Str×Nat)} {v:V} (e:aA H H') (h:cX K H ch v):cX K H' ch v:=by let#[p,cs,h1,h2,h3]:=h; show#[p,cs,h1,e<*h2,Ps.imp (λ_ _ z=>z*>e) h3]
def gy.mono {vw:List (JK Tr)} {v:V} (e:aA H H') (h:gy K H vw v):gy K H' vw v:=by let#[l,us,h1,h2,h3]:=h; show#[l,us,h1,e.seq h2,Ps.imp (λ_ _ z=>aO.mono z e) h3]
def gW.mono {m:Mrk} {v:V} (e:aA H H') (h:gW K H m v):gW K H' m v:=by let#[p,c,w,ws,h1,h2,h3,h4,h5]:=h; show#[p,c,w,ws,h1,e<*h2,h3*>e,e.seq h4,Ps.imp (λ_ _ z=>z*>e) h5]
def Ps.split1 {α:Type} {R:α->V->Prop}:∀{ts:List α} {t:α} {us:List V},Ps R us (ts++[t])->∃ws u,us=ws++[u]/\Ps R ws ts/\R t u
 | [],t,us,h=>by
   match us,h with
   | [u],h=>show#[[],u,rfl,trivial,h.1]
   | [],h=>exact h.elim
   | u::u'::us,h=>exact h.2.elim
 | a::ts,t,us,h=>by
   match us,h with
   | u::us,h =>
     let#[ws,x,rfl,h1,h2]:=Ps.split1 h.2;show#[u::ws,x,rfl,#[h.1,h1],h2]
   | [],h=>exact h.elim
end
def cO (xs:List V) (v:V):ay (xs++[v]) (-1)=⇑v:=by
 unfold ay;have:cT (xs++[v]).length (-1)=⇑xs.length:=by
   unfold cT;rw[JI #[],JR (by rw[JF]; simp; lia)];congr 1;rw[JF];simp
   lia
 rw[this];show(xs++[v])[xs.length]?=_;rw[Jf (JN _),KG];rfl
def i' (xs:List V) (v:V):bu (xs++[v]) none ⇑(-1)=xs:=by unfold bu;show((xs++[v]).drop 0).take (HT.sIx (xs++[v]).length (xs++[v]).length ⇑(-1) - 0)=_;rw[LJ,Lj];have e:HT.sIx (xs++[v]).length (xs++[v]).length ⇑(-1)=((-1:Int)+((xs++[v]).length:Int)).toNat:=rfl;rw[e,show((-1:Int)+((xs++[v]).length:Int)).toNat=xs.length by rw[JF]; simp; lia,List.take_left]
def nI {kvs:List (aI×V)} {k k':aI} :bM (ae kvs k v) k'=if k'=k then ⇑v else bM kvs k':=L2.valV_put kvs k k' v
variable {H:Hp}
def hU :∀{t:Tr} {v:V},RAt H t v->∃p,v=↥p
 | .box _,_,h=>by let#[p,e,_]:=h; show#[p,e]
 | .num _,_,h=>by let#[p,e,_]:=h; show#[p,e]
 | .op _ _ _,_,h=>by let#[p,_,_,e,_]:=h; show#[p,e]
abbrev cz (f:Lv):V->JK (JK Tr)
 | .str n=>f n
 | .int i=>⇑⇑(.num i)
 | _=>none
abbrev dq (f:Lv) (n:Str) (o:JK Tr):Lv:=λm=>if m=n then ⇑o else f m
abbrev both (s:Str):JK Tr->JK Tr->JK Tr
 | some l,⇑r=>⇑(tog s l r)
 | _,_=>none
def gU {H':Hp}{z:Mc} (e:aA H H') (h:H z=none):aA H (ers z H'):=λb o hb=>by rw[bW (λy=>by rw[y,h] at hb; cases hb)]; exact e _ _ hb
def qO (ss:List Str):(K12.onceL ss).Nodup:=by
 have key:∀(ss acc:List Str),acc.Nodup->(ss.foldl K12.step acc).Nodup:=by
   intro ss
   induction ss with
   | nil=>intro acc h; exact h
   | cons s ss ih =>
     intro acc h;refine ih _ ?_;unfold K12.step;split
     . exact h
     . rename_i hs
       rw[Ky];show#[h,by simp,λa ha b hb=>?_];have:b=s:=↑hb
       subst this;exact λz=>hs (z ▸ ha)
 exact key ss [] List.nodup_nil
abbrev kz (ns:List Str) (us:List V):List (aI×V):=(ns.map λn=>(Sum.inr n:aI)).zip us
def xw:∀{ns:List Str} {us:List V} {acc:List (aI×V)},ns.Nodup->(∀n∈ns,bM acc (Sum.inr n:aI)=none)->(kz ns us).foldl 0x2 acc=acc++kz ns us
 | [],us,acc,_,_=>(K5 _).symm
 | n::ns,[],acc,_,_=>(K5 _).symm
 | n::ns,u::us,acc,nd,h=>by
   show(kz ns us).foldl _ (ae acc (Sum.inr n) u)=acc++(Sum.inr n,u)::kz ns us;rw[x5 u (h n JZ)];rw[KN] at nd;rw[xw nd.2 λm hm=>?_,Jn]
   . rfl
   . rw[qk _ _ _ _ (h n JZ),JI (λz=>nd.1 (by rw[<- Sum.inr.inj z]; exact hm))];exact h m (JY _ hm)
abbrev lk:List Str->List (JK Tr)->Lv
 | n::ns,v::vs,m=>if m=n then ⇑v else lk ns vs m
 | _,_,_=>none
def uL {H:Hp}:∀{ns:List Str} {us:List V} {vw:List (JK Tr)},Ps (aO H) us vw->∀n o,lk ns vw n=⇑o->∃v,bM (kz ns us) (Sum.inr n:aI)=⇑v/\aO H o v
 | [],_,_,_,_,_,h=>by cases h
 | n::ns,[],[],_,_,_,h=>by cases h
 | n::ns,u::us,v::vw,hp,m,o,h=>by
   show ∃w,bM ((Sum.inr n,u)::kz ns us) _=⇑w/\_;unfold lk at h;by_cases e:m=n
   . rw[JR e] at h;cases h;show#[u,fN (by rw[e]),hp.1]
   . rw[JI e] at h;rw[fg (λz=>e (Sum.inr.inj z).symm)];exact uL hp.2 m o h
structure Lev where
 F:F2.Fd
 r:Nat
 vw:List (Option Tr)
abbrev Lev.fr (e:Lev):Str×Nat:=(e.F.name,e.r)
abbrev Lev.lv (e:Lev):Lv:=lk (F2.nms e.F) e.vw
structure LevOk (fns:List F2.Fd) (e:Lev):Prop where
 m:e.F∈fns
 r:e.r<e.F.rs.length
 l:e.vw.length=(F2.nms e.F).length
 b:(F2.nms e.F).length<=1000
abbrev eR (L:List Lev):Mrk:=#[L.map Lev.fr,L.map Lev.vw]
abbrev lN (H0 H:Hp) (e:Lev) (v:V):Prop:=∃d us,v=↥d/\H0 d=none/\H d=⇑(.dK (kz (F2.nms e.F) us))/\Ps (aO H) us e.vw
abbrev rE (H0 H:Hp) (L:List Lev) (v:V):Prop:=∃l ds,v=↥l/\H l=⇑(.lst ds)/\Ps (lN H0 H) ds L
abbrev LeA (H:Hp) (e:Lev) (v:V):Prop:=∃d us,v=↥d/\H d=⇑(.dK (kz (F2.nms e.F) us))/\Ps (aO H) us e.vw
abbrev LsE (H:Hp) (L:List Lev) (v:V):Prop:=∃l ds,v=↥l/\H l=⇑(.lst ds)/\Ps (LeA H) ds L
def Ps.map {α β:Type} {R:α->V->Prop} {R':β->V->Prop} (g:α->β):∀{us:List V} {ts:List α},(∀t∈ts,∀v,R t v->R' (g t) v)->Ps R us ts->Ps R' us (ts.map g)
 | [],[],_,_=>trivial
 | u::us,t::ts,f,h=>#[f t JZ u h.1,Ps.map g (λt ht=>f t (JY _ ht)) h.2]
def rE.old {H0:Hp}{L:List Lev} (h:rE H0 H L v):LsE H L v:=by let#[l,ds,h1,h2,h3]:=h; show#[l,ds,h1,h2,Ps.imp (λ_ _ z=>by let#[d,us,z1,_,z3,z4]:=z; show#[d,us,z1,z3,z4]) h3]
def lN.mono {H0 H H':Hp} {e:Lev} {v:V} (s:aA H H') (h:lN H0 H e v):lN H0 H' e v:=by let#[d,us,h1,h0,h2,h3]:=h; show#[d,us,h1,h0,s _ _ h2,Ps.imp (λ_ _ z=>aO.mono z s) h3]
abbrev gR (K:Md) (H:Hp) (b:Int×Tr) (v:V):Prop:=∃p x,v=↥p/\aD K H p [.int b.1,x]/\RAt H b.2 x
def gR.mono {K:Md} {H H':Hp} {b:Int×Tr} {v:V} (e:aA H H') (h:gR K H b v):gR K H' b v:=by let#[p,x,h1,h2,h3]:=h; show#[p,x,h1,e<*h2,h3*>e]
abbrev ge (K:Md) (H:Hp) (ps:List (Int×Tr)) (a:Mc) (v:V):Prop:=∃p l xs,v=↥p/\aD K H p [↥l,↥a]/\aE K H l xs/\Ps (gR K H) xs ps
def ge.mono {K:Md} {H H':Hp} {ps:List (Int×Tr)} {a:Mc} {v:V} (e:aA H H') (h:ge K H ps a v):ge K H' ps a v:=by let#[p,l,xs,h1,h2,h3,h4]:=h; show#[p,l,xs,h1,e<*h2,e.seq h3,Ps.imp (λ_ _ z=>z*>e) h4]
abbrev bZ (ps:List (Int×Tr)):Int->JK Tr:=ps.foldl (λg b=>setG g b.1 b.2) (λ_=>none)
def wv {K:Md} {H:Hp}:∀{xs:List V} {ps:List (Int×Tr)},Ps (gR K H) xs ps->∃(as:List Mc) (kvs:List (aI×V)),xs=as.map V.ref/\Paired (λa (kv:aI×V)=>aD K H a [kV kv.1,kv.2]) as kvs/\kvs.length=ps.length/\∀H' acc g,aA H H'->NV H' acc g->NV H' (kvs.foldl 0x2 acc) (ps.foldl (λg b=>setG g b.1 b.2) g)
 | [],[],_=>#[[],[],rfl,.nil,rfl,λ_ _ _ _ h=>h]
 | x::xs,b::ps,h=>by obtain⟨⟨p,y,rfl,h1,h2⟩,h3⟩:=h;let#[as,kvs,rfl,z1,z2,z3]:=wv h3;show#[p::as,(Sum.inl b.1,y)::kvs,rfl,.cons h1 z1,by rw[Jo,Jo,z2],λH' acc g e n=>z3 H' _ _ e (n.put (h2*>e))]
structure Stp where
 fl:Addr
 sp:Addr
 mt:Addr
 a:Addr
 r:Addr
 d:Addr
 cv:V
 av:V
abbrev stF (S:Stp):List (Str×V):=aQ "news" ↥S.d (aQ "row" ↥S.r (aQ "ahead" S.av (aQ "chain" S.cv (aQ "act" ↥S.a (aQ "marks" ↥S.mt (aQ "spots" ↥S.sp (aQ "flows" ↥S.fl [])))))))
abbrev jj (K:Md) (H:Hp) (kd:Str) (v:V):Prop:=∃p l a r,v=↥p/\aD K H p [l,↥a]/\aD K H a (.str kd::r)
variable {K:Md}
def jj.mono {H':Hp}{kd:Str} (e:aA H H') (h:jj K H kd v):jj K H' kd v:=by let#[p,l,a,r,h1,h2,h3]:=h; show#[p,l,a,r,h1,e<*h2,e<*h3]
structure TbA (K:W.Frag) (C:Addr) (H:Hp) (fl sp mk:Addr) (fns:List F2.Fd) (svs mvs:List V) (ks:List Str) (Ms:List (List Lev)):Prop where
 f:F2.FlowsAt K C H fl fns
 s:aE K H sp svs
 ss:Ps (jj K H) svs ks
 m:aE K H mk mvs
 ms:Ps (λL v=>gW K H (eR L) v) mvs Ms
 l:∀L∈Ms,L.length<=11/\∀e∈L,LevOk fns e
def TbA.mono {K:Md} {C:Mc} {H H':Hp} {fl sp mk:Mc} {fns:List F2.Fd} {svs mvs:List V} {ks:List Str} {Ms:List (List Lev)} (e:aA H H') (h:TbA K C H fl sp mk fns svs mvs ks Ms):TbA K C H' fl sp mk fns svs mvs ks Ms :=
 #[h.f*>e,e.seq h.s,Ps.imp (λ_ _ z=>z*>e) h.ss,e.seq h.m,Ps.imp (λ_ _ z=>z*>e) h.ms,h.l]
def fh {G:Hp}{x:Mc} {o:HO} (e:aA (ers x H) G):aA (ers x H) (upd G x o):=λb o' h=>by
 have hb:b≠x:=λz=>by rw[z] at h; unfold ers at h; rw[JR rfl] at h; cases h
 rw[am hb];exact e _ _ h
section
variable {H:Hp} {x c dx:Mc} {fs:List (Str×V)}
def jZ {a:Mc} {o:HO} (hx:H x=⇑(.ins c dx fs)) (h:H a=⇑o) (ho:∀c dx fs,o≠.ins c dx fs):ers x H a=⇑o:=by rw[bW (λz=>by rw[z,hx] at h; cases h; exact ho _ _ _ rfl)];exact h
def rL {o:HO}:aA (ers x H) (upd H x o):=fh cZ
end
structure Ak where
 S:Stp
 fns:List F2.Fd
 svs:List V
 mvs:List V
 ks:List Str
 Ms:List (List Lev)
 L0:List Lev
 e:Lev
 ps:List (Int×Tr)
 as:List V
abbrev gu (t:Tr):JK Tr->Bool
 | none=>false
 | some u=>PyData.eqv (bL t) (bL u)
abbrev iE (g:Int->JK Tr) (b:Lv) (n:Str):JK Tr->Bool
 | none=>true
 | some t=>match b n with|some o=>gu (pt g t) o|none=>false
abbrev fM (g:Int->JK Tr) (e:Lev) (b:Lv):Bool:=((F2.nms e.F).zip e.vw).all λnv=>iE g b nv.1 nv.2
abbrev gV (g:Int->JK Tr) (L:List Lev) (ch:List (Str×Nat)) (fs:List Lv):Bool:=decide (L.map Lev.fr=ch)&&(L.zip fs).all λeb=>fM g eb.1 eb.2
abbrev gS (A:Ak) (k:Nat) (ch:List (Str×Nat)) (fs:List Lv):Bool:=match A.ks[k]?,A.Ms[k]? with
 | some kd,⇑L=>!decide (kd="wait")&&gV (bZ A.ps) L ch fs
 | _,_=>false
abbrev bI (t:Tr):Prop:=okl (lvs t)/\eZ t/\dp t<10
structure LvlOk (fns:List F2.Fd) (ch:List (Str×Nat)) (fs:List Lv):Prop where
 n:∀c∈ch,PyData.strOk c.1=true
 l:∀(i:Nat) (c:Str×Nat) (f:Lv),ch[i]?=⇑c->fs[i]?=⇑f->∀F∈fns,F.name=c.1->∀n∈F2.nms F,∃o,f n=⇑o/\∀t,o=⇑t->bI t
abbrev Ak.at (A:Ak) (n:Nat):List (Str×Nat):=A.L0.map Lev.fr++[(A.e.F.name,n)]
abbrev Ak.fs (A:Ak):List Lv:=(A.L0++[A.e]).map Lev.lv
abbrev Ak.give (A:Ak) (n:Str) (o:JK Tr):List Lv:=A.L0.map Lev.lv++[dq A.e.lv n o]
abbrev fD (c:Str×Nat):PyData:=.tuple [.str c.1,.int (c.2:Int)]
abbrev cD (ch:List (Str×Nat)):PyData:=.tuple (ch.map fD)
def w4:∀a b:List (Str×Nat),PyData.eqvAll (a.map fD) (b.map fD)=decide (a=b)
 | [],[]=>by rw[Kb]; unfold PyData.eqvAll; rw[JG rfl]
 | [],b::bs=>by rw[Kb,Jd]; unfold PyData.eqvAll; rw[JP 0xB]
 | a::as,[]=>by rw[Kb,Jd]; unfold PyData.eqvAll; rw[JP 0xB]
 | a::as,b::bs=>by rw[Jd,Jd];unfold PyData.eqvAll;rw[show PyData.eqv (fD a) (fD b)=(decide (a.1=b.1)&&decide ((a.2:Int)=b.2)) from i8 _ _ _ _,w4 as bs,K8];let#[a1,a2]:=a;let#[b1,b2]:=b;simp [and_assoc];intro _ _;show#[λz=>by lia,λz=>by rw[z]]
def Df (a b:List (Str×Nat)):PyData.eqv (cD a) (cD b)=decide (a=b):=by unfold cD PyData.eqv;exact w4 a b
def vV {K:Md} {H:Hp}:∀{cs:List V} {ch:List (Str×Nat)},Ps (cy K H) cs ch->bF K H (ch.map fD) cs
 | [],[],_=>by rw[Kb]; unfold bF; rfl
 | c::cs,f::ch,h=>by rw[Jd];unfold bF;obtain⟨⟨p,rfl,h1⟩,h2⟩:=h;show#[9,pf h1,vV h2]
def cX.dat {ch:List (Str×Nat)} (h:cX K H ch v):au K H (cD ch) v:=by let#[p,cs,rfl,h1,h2]:=h;unfold cD au;show#[p,cs,rfl,h1,vV h2]
def px {ch:List (Str×Nat)} (h:∀c∈ch,PyData.strOk c.1=true):ax 2 (cD ch):=by
 unfold cD;refine ax.tuple λd hd=>?_;let#[f,hf,rfl]:=Jh.mp hd;unfold fD;refine ax.tuple λd hd=>?_;rcases JT.mp hd with rfl|hd
 . exact ax.str (h f hf)
 . cases JO.mp hd; exact ax.int _
def IC (t:Tr):PyData.eqv (bL t) .none=false:=by cases t <;> (unfold bL PyData.eqv; rfl)
abbrev cK (H0 H H':Hp):Prop:=∀a o,H a=⇑o->H' a=⇑o\/∃kvs oo,o=.dK kvs/\H0 a=none/\H' a=⇑(.frz oo (.dK kvs))
section
variable {H0 H H1 H2:Hp}
def cK.of (s:aA H H1):cK H0 H H1:=λa o h=>.inl (s _ _ h)
def cK.trans (f:cK H0 H H1) (s:aA H1 H2):cK H0 H H2:=λa o h=>(f a o h).elim (λz=>.inl (s _ _ z)) λz216_=>by let#[k,oo,e,n,z]:=z216_; exact .inr #[k,oo,e,n,s _ _ z]
def cK.frz {d:Mc} {kvs:List (aI×V)} {oo:Obj} (f:cK H0 H H1) (n:H0 d=none) (e:H1 d=⇑(.dK kvs)):cK H0 H (upd H1 d (.frz oo (.dK kvs))):=λa o h=>by
 by_cases z:a=d
 . subst z;rcases f a o h with g|⟨k,o2,g1,g2,g3⟩
   . rw[e] at g; cases g;exact .inr #[kvs,oo,rfl,n,aG]
   . rw[e] at g3; cases g3
 . rw[am z];exact f a o h
def cK.same (s:aA H0 H) (f:cK H0 H H1):aA H0 H1:=λa o h=>(f a o (s _ _ h)).elim id λz217_=>by let#[_,_,_,n,_]:=z217_; rw[n] at h; cases h
def cK.lst {l:Mc} {xs:List V} (f:cK H0 H H1) (h:H l=⇑(.lst xs)):H1 l=⇑(.lst xs):=(f _ _ h).elim id λz218_=>by let#[_,_,e,_,_]:=z218_; cases e
def cK.tup {l:Mc} {xs:List V} (f:cK H0 H H1) (h:H l=⇑(.tup xs)):H1 l=⇑(.tup xs):=(f _ _ h).elim id λz219_=>by let#[_,_,e,_,_]:=z219_; cases e
def cK.dk {d:Mc} {kvs:List (aI×V)} (f:cK H0 H H1) (h:H d=⇑(.dK kvs)):H1 d=⇑(.dK kvs)\/∃o,H1 d=⇑(.frz o (.dK kvs)):=(f _ _ h).elim .inl λz220_=>by let#[_,oo,e,_,z]:=z220_; exact .inr #[oo,by cases e; exact z]
def cK.rat (f:cK H0 H H1):∀{t:Tr} {v:V},RAt H t v->RAt H1 t v
 | .box _,_,h=>by let#[p,e,z]:=h; show#[p,e,f<*z]
 | .num _,_,h=>by let#[p,e,z]:=h; show#[p,e,f<*z]
 | .op _ _ _,_,h=>by let#[p,a,b,e,z,z1,z2,z3,z4]:=h; show#[p,a,b,e,f<*z,z1,z2,f.rat z3,f.rat z4]
def cK.vat (f:cK H0 H H1):∀{o:JK Tr} {v:V},aO H o v->aO H1 o v
 | none,_,h=>h
 | some _,_,h=>f.rat h
end
noncomputable abbrev sV (g:TG) (tb:TS) (D:cU) (σ:L2.St) (J:It) (H1:Hp):Prop:=∃W:Nat->Nat->L2.St->Hp->Prop,(∃m,W 0 m σ H1)/\∀i m σ H,W i m σ H->(J.stop i H/\D.nx σ H)\/(J.go i H/\∃N:L2.St->Hp->Prop,(∀σ' H',N σ' H'->∃m',m'<m/\W (i+1) m' σ' H')/\∀x H',J.yld i H x H'->g x σ H' λσ2 H2=>tb { D with nx:=N,ct:=N,bk:=D.nx } σ2 H2)
def F3 {H0 H1 G:Hp} {d:Mc} {kvs:List (aI×V)} {g:TG} {tb:TS} {D:cU} {σ:L2.St} (fz:cK H0 H1 G) (n:H0 d=none) (e:H1 d=⇑(.dK kvs)) (m:∀o G2,cK H0 H1 G2->G2 d=⇑(.frz o (.dK kvs))->sV g tb D σ (gZ o d kvs) G2):∃d' kvs',V.ref d=↥d'/\((G d'=⇑(.dK kvs')/\∀o,sV g tb D σ (gZ o d' kvs') (upd G d' (.frz o (.dK kvs'))))\/∃o,G d'=⇑(.frz o (.dK kvs'))/\sV g tb D σ (gZ o d' kvs') G) :=
 (fz.dk e).elim (λz=>#[d,kvs,rfl,.inl #[z,λo=>m o _ (fz.frz n z) aG]]) λz221_=>by let#[o,z]:=z221_; show#[d,kvs,rfl,.inr #[o,z,m o _ fz z]]
def GI {ns:List Str} {us:List V} {vw:List (JK Tr)} {j:Nat} {kv:aI×V} (hp:Ps (aO H) us vw) (h:(kz ns us)[j]?=⇑kv):∃n o u,kv=(Sum.inr n,u)/\(ns.zip vw)[j]?=⇑(n,o)/\aO H o u:=by
 induction ns generalizing us vw j with
 | nil=>cases j <;> cases h
 | cons n ns ih =>
   cases us with
   | nil=>cases j <;> cases h
   | cons u us =>
     cases vw with
     | nil=>exact hp.elim
     | cons v vw =>
       cases j with
       | zero=>cases h; show#[n,v,u,7,hp.1]
       | succ j=>exact ih (us:=us) (j:=j) hp.2 h
def Hf {ns:List Str} {us:List V} {vw:List (JK Tr)} (hp:Ps (aO H) us vw):(kz ns us).length=(ns.zip vw).length:=by unfold kz;rw[KZ,KZ,JE,Ps.len hp]
def wP:∀{ps:List (Int×Tr)} {g:Int->JK Tr},(∀b∈ps,bI b.2)->(∀k t,g k=⇑t->bI t)->∀k t,ps.foldl (λg b=>setG g b.1 b.2) g k=⇑t->bI t
 | [],_,_,hg,k,t,h=>hg k t h
 | b::ps,g,hp,hg,k,t,h=>wP (λc hc=>hp c (JY _ hc)) (λj u e=>by
     have e:(if j=b.1 then ⇑b.2 else g j)=⇑u:=e;split at e
     . cases e; exact hp b JZ
     . exact hg j u e) k t h
def rY {ps:List (Int×Tr)} (h:∀b∈ps,bI b.2):∀k t,bZ ps k=⇑t->bI t:=wP h (λ_ _ e=>by cases e)
def bI.lay {t:Tr} (h:bI t):ax 10 (bL t):=(iD h.2.1)*>(by have:=h.2.2; lia)
def xP {g:Int->JK Tr} {t:Tr} (hg:∀k u,g k=⇑u->bI u) (h:bI t):ax 20 (bL (pt g t)):=(iD (mi (λk u e=>(hg k u e).2.1) h.2.1))*>(by have:=oN (g:=g) (m:=9) (λk u e=>by have:=(hg k u e).2.2; lia) t; have:=h.2.2; lia)
def xK {Q:VK} {t:Tr} {o:JK Tr} {x y:V} (ht:ax 20 (bL t)) (ho:∀u,o=⇑u->bI u) (hx:RAt H t x) (hy:aO H o y) (q:Q (.bl (!gu t o)) H):gk K x y H Q:=by
 cases o with
 | none =>
   cases hy;show#[bL t,.none,dR hx,(by unfold au; rfl),ht.shaped #[],(ax.none (n:=1)).shaped #[],by rw[IC]; exact q]
 | some u=>show#[bL t,bL u,dR hx,dR hy,ht.shaped #[],(ho u rfl).lay.shaped #[],q]
def wm {Q:VK} {a b:List (Str×Nat)} {x y:V} (ha:∀c∈a,PyData.strOk c.1=true) (hb:∀c∈b,PyData.strOk c.1=true) (hx:cX K H a x) (hy:cX K H b y) (q:Q (.bl (!decide (a=b))) H):gk K x y H Q :=
 #[cD a,cD b,hx.dat,hy.dat,(px ha).shaped #[],(px hb).shaped #[],by rw[Df]; exact q]
def IQ {p:Mc} {s:Str} (h:aD K H p [.str s]):au K H (.tuple [.str s]) ↥p:=by unfold au;show#[p,5,h,?_];unfold bF;show#[9,by unfold au; rfl,?_];unfold bF;rfl
def BR (s s':Str):PyData.eqv (.tuple [.str s]) (.tuple [.str s'])=decide (s=s'):=by unfold PyData.eqv PyData.eqvAll;rw[show PyData.eqvAll [] []=true by unfold PyData.eqvAll; rfl,MX];unfold PyData.eqv;rfl
abbrev oD:JK Tr->PyData
 | none=>.none
 | some u=>bL u
def FM :∀{o:JK Tr} {v:V},aO H o v->au K H (oD o) v
 | none,_,h=>by cases h; unfold oD au; rfl
 | some _,_,h=>dR h
def wy:∀{o:JK Tr},(∀u,o=⇑u->bI u)->ax 10 (oD o)
 | none,_=>ax.none
 | some u,h=>(h u rfl).lay
structure TbB (K:W.Frag) (H:Hp) (sp mk:Addr) (A:Ak):Prop where
 s:aE K H sp A.svs
 ss:Ps (jj K H) A.svs A.ks
 m:aE K H mk A.mvs
 ms:Ps (λL v=>gW K H (eR L) v) A.mvs A.Ms
 l:∀L∈A.Ms,L.length<=11/\∀e∈L,LevOk A.fns e
def TbB.mono {K:Md} {H H':Hp} {sp mk:Mc} {A:Ak} (e:aA H H') (h:TbB K H sp mk A):TbB K H' sp mk A :=
 #[e.seq h.s,Ps.imp (λ_ _ z=>z*>e) h.ss,e.seq h.m,Ps.imp (λ_ _ z=>z*>e) h.ms,h.l]
abbrev Ak.to (A:Ak) (S:Stp):Ak:={ A with S:=S }
end St
namespace Br
open PySem L2 Gx Rk2 Bg St
abbrev RB (K:Md) (ab:Mc) (H:Hp):Tr->V->Prop
 | .box k,v=>(k=-1/\v=↥ab/\aD K H ab [.str "brought"])\/(¬ k=-1/\∃p,v=↥p/\H p=⇑(.tup [.str "box",.int k]))
 | .num i,v=>∃p,v=↥p/\H p=⇑(.tup [.str "num",.int i])
 | .op s l r,v=>∃p a b,v=↥p/\H p=⇑(.tup [.str s,a,b])/\¬ s="box"/\¬ s="num"/\RB K ab H l a/\RB K ab H r b
abbrev bh:Tr->Prop
 | .box k=>¬ k=-1
 | .num _=>True
 | .op _ l r=>bh l/\bh r
section
variable {K:Md} {ab:Mc} {H H':Hp}
def RB.mono (e:aA H H'):∀{t:Tr} {v:V},RB K ab H t v->RB K ab H' t v
 | .box _,_,h=>h.elim (λz222_=>by let#[a,b,c]:=z222_; exact .inl #[a,b,e<*c]) λz223_=>by let#[a,p,b,c]:=z223_; exact .inr #[a,p,b,e _ _ c]
 | .num _,_,h=>by let#[p,a,b]:=h; show#[p,a,e _ _ b]
 | .op _ _ _,_,h=>by let#[p,a,b,h1,h2,h3,h4,h5,h6]:=h; show#[p,a,b,h1,e _ _ h2,h3,h4,h5*>e,h6*>e]
def RB.of:∀{t:Tr} {v:V},bh t->RAt H t v->RB K ab H t v
 | .box _,_,n,h=>.inr #[n,h]
 | .num _,_,_,h=>h
 | .op _ _ _,_,n,h=>by let#[p,a,b,h1,h2,h3,h4,h5,h6]:=h; show#[p,a,b,h1,h2,h3,h4,RB.of n.1 h5,RB.of n.2 h6]
def RB.head {tr:Tr} {v:V} (h:RB K ab H tr v):∃p hd rest,v=↥p/\aD K H p (.str hd::rest)/\(hd="num"->∃k,tr=.num k/\rest=[.int k])/\(¬ hd="num"->∀k,tr≠.num k):=by
 cases tr with
 | box k =>
   rcases h with⟨_,rfl,e⟩|⟨_,p,rfl,e⟩
   . show#[ab,9,e,λz=>absurd z 0x3,λ_ k z=>by cases z]
   . show#[p,9,aD.of e,λz=>absurd z 0x3,λ_ k z=>by cases z]
 | num k =>
   let#[p,rfl,e]:=h;show#[p,9,aD.of e,λ_=>#[k,7],λz=>absurd rfl z]
 | op s l r =>
   let#[p,x,y,rfl,e,n1,n2,_,_]:=h;show#[p,9,aD.of e,λz=>absurd z n2,λ_ k z=>by cases z]
abbrev VB (K:Md) (ab:Mc) (H:Hp):JK Tr->V->Prop
 | none,v=>v=.non
 | some t,v=>RB K ab H t v
def VB.mono (e:aA H H'):∀{o:JK Tr} {v:V},VB K ab H o v->VB K ab H' o v
 | none,_,h=>h
 | some _,_,h=>RB.mono e h
def VB.of:∀{o:JK Tr} {v:V},(∀t,o=⇑t->bh t)->aO H o v->VB K ab H o v
 | none,_,_,h=>h
 | some t,_,n,h=>RB.of (n t rfl) h
abbrev NB (K:Md) (ab:Mc) (H:Hp) (kvs:List (aI×V)) (g:Int->JK Tr):Prop:=∀k,match g k with|none=>bM kvs (Sum.inl k:aI)=none|some t=>∃x,bM kvs (Sum.inl k:aI)=⇑x/\RB K ab H t x
def NB.no {kvs:List (aI×V)} {g:Int->JK Tr} (h:NB K ab H kvs g) {k:Int} (e:g k=none):bM kvs (Sum.inl k:aI)=none:=by have:=h k;rw[e] at this;exact this
def NB.yes {kvs:List (aI×V)} {g:Int->JK Tr} (h:NB K ab H kvs g) {k:Int} {t:Tr} (e:g k=⇑t):∃x,bM kvs (Sum.inl k:aI)=⇑x/\RB K ab H t x:=by have:=h k;rw[e] at this;exact this
def NB.of {kvs:List (aI×V)} {g:Int->JK Tr} (h1:∀k,g k=none->bM kvs (Sum.inl k:aI)=none) (h2:∀k t,g k=⇑t->∃x,bM kvs (Sum.inl k:aI)=⇑x/\RB K ab H t x):NB K ab H kvs g:=λk=>by
 cases e:g k with
 | none=>exact h1 k e
 | some t=>exact h2 k t e
def NB.mono {kvs:List (aI×V)} {g:Int->JK Tr} (h:NB K ab H kvs g) (s:aA H H'):NB K ab H' kvs g:=.of (λk e=>h.no e) λk t e=>by let#[x,h1,h2]:=h.yes e; show#[x,h1,h2*>s]
def NB.put {kvs:List (aI×V)} {g:Int->JK Tr} (h:NB K ab H kvs g) {k:Int} {t:Tr} {x:V} (r:RB K ab H t x):NB K ab H (ae kvs (Sum.inl k:aI) x) (setG g k t):=by
 refine .of (λj e=>?_) λj t' e=>?_
 . unfold setG at e;split at e
   . cases e
   . rename_i hj
     rw[valV_put,JI (λz=>hj (Sum.inl.inj z))];exact h.no e
 . unfold setG at e;split at e
   . rename_i hj
     cases e;rw[valV_put,JR (by rw[hj])];show#[x,rfl,r]
   . rename_i hj
     rw[valV_put,JI (λz=>hj (Sum.inl.inj z))];exact h.yes e
def NB.of_nv {kvs:List (aI×V)} {g:Int->JK Tr} (n:∀k t,g k=⇑t->bh t) (h:NV H kvs g):NB K ab H kvs g:=.of (λk e=>h.no e) λk t e=>by let#[x,h1,h2]:=h.yes e; show#[x,h1,RB.of (n k t e) h2]
end
abbrev cG:Tr->PyData
 | .box k=>if k=-1 then .tuple [.str "brought"] else .tuple [.str "box",.int k]
 | .num i=>.tuple [.str "num",.int i]
 | .op s l r=>.tuple [.str s,cG l,cG r]
def wD (s s':Str) (a b a' b':PyData):PyData.eqv (.tuple [.str s,a,b]) (.tuple [.str s',a',b'])=(decide (s=s')&&(PyData.eqv a a'&&PyData.eqv b b')):=by rw[PyData.eqv,PyData.eqvAll,PyData.eqvAll,PyData.eqvAll,PyData.eqvAll,MX,show PyData.eqv (.str s) (.str s')=decide (s=s') by unfold PyData.eqv; rfl]
def lE:∀a b:Tr,PyData.eqv (bL a) (bL b)=decide (a=b)
 | a,.box k=>pX a k
 | a,.num k=>Gn a k
 | .op s l r,.op s' l' r'=>by show PyData.eqv (.tuple [.str s,bL l,bL r]) (.tuple [.str s',bL l',bL r'])=_;rw[wD,lE l l',lE r r',K8];simp
 | .box k,.op s' l' r'=>by show PyData.eqv (.tuple [.str "box",.int k]) (.tuple [.str s',bL l',bL r'])=_;rw[JP 0xB,PyData.eqv,PyData.eqvAll,PyData.eqvAll,PyData.eqvAll,Jx,Jx]
 | .num k,.op s' l' r'=>by show PyData.eqv (.tuple [.str "num",.int k]) (.tuple [.str s',bL l',bL r'])=_;rw[JP 0xB,PyData.eqv,PyData.eqvAll,PyData.eqvAll,PyData.eqvAll,Jx,Jx]
def gT:cG (.box (-1))=.tuple [.str "brought"]:=JR rfl
def gQ {k:Int} (h:¬ k=-1):cG (.box k)=.tuple [.str "box",.int k]:=JI h
def n9 (s s':Str) (a:PyData):PyData.eqv (.tuple [.str s]) (.tuple [.str s',a])=false/\PyData.eqv (.tuple [.str s',a]) (.tuple [.str s])=false:=by constructor <;> rw[PyData.eqv,PyData.eqvAll,PyData.eqvAll,Jx]
def u8 (s s':Str) (a b:PyData):PyData.eqv (.tuple [.str s]) (.tuple [.str s',a,b])=false/\PyData.eqv (.tuple [.str s',a,b]) (.tuple [.str s])=false:=by constructor <;> rw[PyData.eqv,PyData.eqvAll,PyData.eqvAll,Jx]
def mf (s s':Str) (a b c:PyData):PyData.eqv (.tuple [.str s,c]) (.tuple [.str s',a,b])=false/\PyData.eqv (.tuple [.str s',a,b]) (.tuple [.str s,c])=false:=by constructor <;> rw[PyData.eqv,PyData.eqvAll,PyData.eqvAll,PyData.eqvAll,Jx,Jx]
def mO:∀a b:Tr,PyData.eqv (cG a) (cG b)=decide (a=b)
 | .box k,.box j=>by
   by_cases h:k=-1
   . subst h;rw[gT];by_cases h':j=-1
     . subst h';rw[gT,BR,JG rfl,JG rfl]
     . rw[gQ h',(n9 _ _ _).1,JP (λz=>h' (Tr.box.inj z).symm)]
   . rw[gQ h];by_cases h':j=-1
     . subst h';rw[gT,(n9 _ _ _).2,JP (λz=>h (Tr.box.inj z))]
     . rw[gQ h',i8,JG rfl,K3];exact decide_eq_decide.mpr #[λz=>by rw[z],λz=>Tr.box.inj z]
 | .box k,.num j=>by
   rw[JP 0xB];show PyData.eqv (cG (.box k)) (.tuple [.str "num",.int j])=_;by_cases h:k=-1
   . subst h; rw[gT]; exact(n9 _ _ _).1
   . rw[gQ h,i8,JP 0x3]; rfl
 | .num j,.box k=>by
   rw[JP 0xB];show PyData.eqv (.tuple [.str "num",.int j]) (cG (.box k))=_;by_cases h:k=-1
   . subst h; rw[gT]; exact(n9 _ _ _).2
   . rw[gQ h,i8,JP 0x3]; rfl
 | .num i,.num j=>by show PyData.eqv (.tuple [.str "num",.int i]) (.tuple [.str "num",.int j])=_;rw[i8,JG rfl,K3];exact decide_eq_decide.mpr #[λz=>by rw[z],λz=>Tr.num.inj z]
 | .box k,.op s l r=>by
   rw[JP 0xB];show PyData.eqv (cG (.box k)) (.tuple [.str s,cG l,cG r])=_;by_cases h:k=-1
   . subst h; rw[gT]; exact(u8 _ _ _ _).1
   . rw[gQ h]; exact(mf _ _ _ _ _).1
 | .op s l r,.box k=>by
   rw[JP 0xB];show PyData.eqv (.tuple [.str s,cG l,cG r]) (cG (.box k))=_;by_cases h:k=-1
   . subst h; rw[gT]; exact(u8 _ _ _ _).2
   . rw[gQ h]; exact(mf _ _ _ _ _).2
 | .num j,.op s l r=>by rw[JP 0xB];exact(mf _ _ _ _ _).1
 | .op s l r,.num j=>by rw[JP 0xB];exact(mf _ _ _ _ _).2
 | .op s l r,.op s' l' r'=>by show PyData.eqv (.tuple [.str s,cG l,cG r]) (.tuple [.str s',cG l',cG r'])=_;rw[wD,mO l l',mO r r',K8];simp
def mD:∀{t:Tr},eZ t->ax (dp t+1) (cG t)
 | .box k,_=>by
   by_cases h:k=-1
   . subst h;rw[gT];exact ax.tuple λd hd=>by cases JO.mp hd; exact ax.str 0x3
   . rw[gQ h];exact iD (t:=.box k) trivial
 | .num k,_=>iD (t:=.num k) trivial
 | .op s l r,h=>by
   have h1:=mD h.2.1;have h2:=mD h.2.2;refine ax.tuple λd hd=>?_;simp only[JT,J',or_false] at hd;rcases hd with rfl|rfl|rfl
   . exact ax.str h.1
   . exact h1*>(by show dp l+1<=max (dp l) (dp r)+1; lia)
   . exact h2*>(by show dp r+1<=max (dp l) (dp r)+1; lia)
def jQ {K:Md} {ab:Mc} {H:Hp}:∀{t:Tr} {v:V},RB K ab H t v->au K H (cG t) v
 | .box k,v,h=>by
   rcases h with⟨rfl,rfl,e⟩|⟨n,p,rfl,e⟩
   . rw[gT]; exact IQ e
   . rw[gQ n]; exact pf (aD.of e)
 | .num k,v,h=>by let#[p,rfl,e]:=h;exact pf (aD.of e)
 | .op s l r,v,h=>by let#[p,a,b,rfl,e,_,_,h1,h2]:=h;show au K H (.tuple [.str s,cG l,cG r]) ↥p;unfold au;show#[p,5,aD.of e,?_];unfold bF;show#[9,by unfold au; rfl,?_];unfold bF;show#[9,jQ h1,?_];unfold bF;show#[9,jQ h2,?_];unfold bF;rfl
def xF (t:Tr):PyData.eqv (cG t) .none=false:=by
 cases t with
 | box k =>
   by_cases h:k=-1
   . subst h; rw[gT]; unfold PyData.eqv; rfl
   . rw[gQ h]; unfold PyData.eqv; rfl
 | num k=>show PyData.eqv (.tuple _) .none=false; unfold PyData.eqv; rfl
 | op s l r=>show PyData.eqv (.tuple _) .none=false; unfold PyData.eqv; rfl
def Fq {K:Md} {ab:Mc} {H:Hp} {Q:VK} {t:Tr} {o:JK Tr} {x y:V} (ht:ax 20 (cG t)) (ho:∀u,o=⇑u->bI u) (hx:RB K ab H t x) (hy:VB K ab H o y) (q:Q (.bl (!gu t o)) H):gk K x y H Q:=by
 cases o with
 | none =>
   cases hy;show#[cG t,.none,jQ hx,(by unfold au; rfl),ht.shaped #[],(ax.none (n:=1)).shaped #[],by rw[xF]; exact q]
 | some u =>
   show#[cG t,cG u,jQ hx,jQ hy,ht.shaped #[],((mD (ho u rfl).2.1)*>(by have:=(ho u rfl).2.2; lia:dp u+1<=20)).shaped #[],?_];rw[mO,<- lE];exact q
end Br
namespace Br
open PySem L2 Gx Rk2 Bg Fl Wk St
section
variable (K:Md) (ab:Mc)
abbrev jy (b:Nat) (H:Hp) (f:Lv) (d:Mc):Prop:=∃kvs,H d=⇑(.dK kvs)/\kvs.length<=b/\∀n o,f n=⇑o->∃v,bM kvs (Sum.inr n:aI)=⇑v/\VB K ab H o v
abbrev jA (b:Nat) (H:Hp) (f:Lv) (v:V):Prop:=∃d,v=↥d/\jy K ab b H f d
abbrev dF (b:Nat) (H:Hp) (fs:List Lv) (v:V):Prop:=∃l ds,v=↥l/\H l=⇑(.lst ds)/\Ps (jA K ab b H) ds fs
end
section
variable {K:Md} {ab:Mc} {H H':Hp}
def jy.mono {b:Nat} {f:Lv} {d:Mc} (e:aA H H') (h:jy K ab b H f d):jy K ab b H' f d:=by let#[kvs,h1,h2,h3]:=h; show#[kvs,e _ _ h1,h2,λn o z=>by let#[v,a,b]:=h3 n o z; show#[v,a,b*>e]]
def jA.mono {b:Nat} {f:Lv} {v:V} (e:aA H H') (h:jA K ab b H f v):jA K ab b H' f v:=by let#[d,h1,h2]:=h; show#[d,h1,h2*>e]
def dF.mono {b:Nat} {fs:List Lv} {v:V} (e:aA H H') (h:dF K ab b H fs v):dF K ab b H' fs v:=by let#[l,ds,h1,h2,h3]:=h; show#[l,ds,h1,e _ _ h2,Ps.imp (λ_ _ z=>z*>e) h3]
def jA.up {b c:Nat} {f:Lv} {v:V} (hb:b<=c) (h:jA K ab b H f v):jA K ab c H f v:=by let#[d,h1,kvs,h2,h3,h4]:=h; show#[d,h1,kvs,h2,Jj h3 hb,h4]
def dF.up {b c:Nat} {fs:List Lv} {v:V} (hb:b<=c) (h:dF K ab b H fs v):dF K ab c H fs v:=by let#[l,ds,h1,h2,h3]:=h; show#[l,ds,h1,h2,Ps.imp (λ_ _ z=>z.up hb) h3]
abbrev cQ (vw:List (JK Tr)):Prop:=∀t,⇑t∈vw->bh t
def Eh {fns:List F2.Fd} {L:List Lev} {v:V} (hk:∀e∈L,LevOk fns e) (hn:∀e∈L,cQ e.vw) (h:LsE H L v):dF K ab 1000 H (L.map Lev.lv) v:=by
 let#[l,ds,h1,h2,h3]:=h;show#[l,ds,h1,h2,St.Ps.map Lev.lv (λe he v z=>?_) h3];let#[d,us,z1,z2,z3]:=z;show#[d,z1,_,z2,?_,λn o ho=>?_]
 . unfold kz;rw[KZ,JE];have:=(hk e he).b
   lia
 . let#[v,a,b]:=uL z3 n o ho;show#[v,a,VB.of (λt et=>?_) b];subst et;have key:∀{ns:List Str} {vw:List (JK Tr)} {n:Str} {o:JK Tr},lk ns vw n=⇑o->o∈vw:=by
     intro ns
     induction ns with
     | nil=>intro vw n o h; cases h
     | cons m ns ih =>
       intro vw n o h;cases vw with
       | nil=>cases h
       | cons v vw =>
         unfold lk at h;split at h
         . cases h; exact JZ
         . exact JY _ (ih h)
   exact hn e he t (key ho)
end
abbrev dN (fb:JK Int):List (Int×Tr):=match fb with
 | none=>[]
 | some i=>[(i,.box (-1))]
def vB (ps:List (Int×Tr)) (i:Int):bZ (ps++dN ⇑i)=setG (bZ ps) i (.box (-1)):=by unfold bZ;rw[K0];rfl
structure StpB (K:W.Frag) (ab:Addr) (CS CF:Addr) (H:Hp) (x:Addr) (A:Ak):Prop where
 ob:∃dx,H x=⇑(.ins CS dx (stF A.S))
 tb:TbA K CF H A.S.fl A.S.sp A.S.mt A.fns A.svs A.mvs A.ks A.Ms
 ac:aD K H A.S.a A.as
 ch:cX K H ((A.L0++[A.e]).map Lev.fr) A.S.cv
 ah:dF K ab 1000 H ((A.L0++[A.e]).map Lev.lv) A.S.av
 ok:∀e'∈A.L0++[A.e],LevOk A.fns e'
 ln:A.L0.length<=10
 row:∃w,A.e.F.rs[A.e.r]?=⇑w/\A.S.r=w.r
 nw:∃kvs,H A.S.d=⇑(.dK kvs)/\NB K ab H kvs (bZ A.ps)
def StpB.mono {K:Md} {ab CS CF:Mc} {H H':Hp} {x:Mc} {A:Ak} (s:aA H H') (h:StpB K ab CS CF H x A):StpB K ab CS CF H' x A :=
 #[by let#[dx,z]:=h.ob; show#[dx,s _ _ z],h.tb*>s,s<*h.ac,h.ch*>s,h.ah*>s,h.ok,h.ln,h.row,by let#[kvs,z1,z2]:=h.nw; show#[kvs,s _ _ z1,z2*>s]]
structure AkB (A:Ak):Prop where
 l:A.ks.length=A.Ms.length
 n:∀F∈A.fns,PyData.strOk F.name=true
 g:∀b∈A.ps,bI b.2
 v:∀L∈A.Ms,∀e∈L,∀t,⇑t∈e.vw->bI t/\bh t
section
variable {K:Md} {ab:Mc} {H:Hp} {x c dx:Mc} {fs:List (Str×V)}
def mU (ha:∀H:Hp,aD K H ab [.str "brought"]) (hx:H x=⇑(.ins c dx fs)):∀{t:Tr} {v:V},RB K ab H t v->RB K ab (ers x H) t v
 | .box _,_,h=>h.elim (λz224_=>by let#[a,b,_]:=z224_; exact .inl #[a,b,ha _]) λz225_=>by let#[a,p,b,z]:=z225_; exact .inr #[a,p,b,jZ hx z (λ_ _ _ y=>by cases y)]
 | .num _,_,h=>by let#[p,e,z]:=h; show#[p,e,jZ hx z (λ_ _ _ y=>by cases y)]
 | .op _ _ _,_,h=>by let#[p,a,b,e,z,z1,z2,z3,z4]:=h; show#[p,a,b,e,jZ hx z (λ_ _ _ y=>by cases y),z1,z2,mU ha hx z3,mU ha hx z4]
def EH (ha:∀H:Hp,aD K H ab [.str "brought"]) (hx:H x=⇑(.ins c dx fs)):∀{o:JK Tr} {v:V},VB K ab H o v->VB K ab (ers x H) o v
 | none,_,h=>h
 | some _,_,h=>mU ha hx h
def Hj (ha:∀H:Hp,aD K H ab [.str "brought"]) {b:Nat} {gs:List Lv} {v:V} (hx:H x=⇑(.ins c dx fs)) (h:dF K ab b H gs v):dF K ab b (ers x H) gs v :=
 let ⟨l,ds,h1,h2,h3⟩:=h
 #[l,ds,h1,jZ hx h2 (λ_ _ _ y=>by cases y),Ps.imp (λ_ _ z=>by let#[d,z1,kvs,z2,z3,z4]:=z; show#[d,z1,kvs,jZ hx z2 (λ_ _ _ y=>by cases y),z3,λn o y=>by let#[v,y1,y2]:=z4 n o y; show#[v,y1,EH ha hx y2]]) h3]
def Cq (ha:∀H:Hp,aD K H ab [.str "brought"]) {kvs:List (aI×V)} {g:Int->JK Tr} (hx:H x=⇑(.ins c dx fs)) (h:NB K ab H kvs g):NB K ab (ers x H) kvs g:=.of (λk e=>h.no e) λk t e=>by let#[u,y1,y2]:=h.yes e; show#[u,y1,mU ha hx y2]
end
def Bd {g:Int->JK Tr} {t:Tr} (hg:∀k u,g k=⇑u->bI u) (h:bI t):ax 20 (cG (pt g t)):=(mD (mi (λk u e=>(hg k u e).2.1) h.2.1))*>(by have:=oN (g:=g) (m:=9) (λk u e=>by have:=(hg k u e).2.2; lia) t; have:=h.2.2; lia)
def vh:∀{ps:List (Int×Tr)} {g:Int->JK Tr},(∀b∈ps,bh b.2)->(∀k t,g k=⇑t->bh t)->∀k t,ps.foldl (λg b=>setG g b.1 b.2) g k=⇑t->bh t
 | [],_,_,hg,k,t,h=>hg k t h
 | b::ps,g,hp,hg,k,t,h=>vh (λc hc=>hp c (JY _ hc)) (λj u e=>by
     have e:(if j=b.1 then ⇑b.2 else g j)=⇑u:=e;split at e
     . cases e; exact hp b JZ
     . exact hg j u e) k t h
def Ie {ps:List (Int×Tr)} (h:∀b∈ps,bh b.2):∀k t,bZ ps k=⇑t->bh t:=vh h (λ_ _ e=>by cases e)
def nj {K:Md} {ab:Mc} {H:Hp} {d:Mc} {kvs:List (aI×V)} {o:HO} (ha:∀H:Hp,aD K H ab [.str "brought"]) (hd:H d=⇑(.dK kvs)):∀{t:Tr} {v:V},RB K ab H t v->RB K ab (upd H d o) t v
 | .box _,_,h=>h.elim (λz226_=>by let#[a,b,_]:=z226_; exact .inl #[a,b,ha _]) λz227_=>by let#[a,p,b,z]:=z227_; exact .inr #[a,p,b,by rw[am (λy=>by rw[y,hd] at z; cases z)]; exact z]
 | .num _,_,h=>by let#[p,e,z]:=h; show#[p,e,by rw[am (λy=>by rw[y,hd] at z; cases z)]; exact z]
 | .op _ _ _,_,h=>by let#[p,a,b,e,z,z1,z2,z3,z4]:=h; show#[p,a,b,e,(by rw[am (λy=>by rw[y,hd] at z; cases z)]; exact z),z1,z2,nj ha hd z3,nj ha hd z4]
def Iv {K:Md} {ab:Mc} {H:Hp} {d:Mc} {kvs kvs':List (aI×V)} {o:HO} {g:Int->JK Tr} (ha:∀H:Hp,aD K H ab [.str "brought"]) (hd:H d=⇑(.dK kvs)) (h:NB K ab H kvs' g):NB K ab (upd H d o) kvs' g:=.of (λk e=>h.no e) λk t e=>by let#[x,h1,h2]:=h.yes e; show#[x,h1,nj ha hd h2]
def sZ:∀(kvs acc:List (aI×V)),(kvs.foldl 0x2 acc).length<=acc.length+kvs.length
 | [],acc=>by simp
 | kv::kvs,acc=>by
   have h1:=sZ kvs (ae acc kv.1 kv.2);have h2:=putK_len acc kv.1 kv.2;show(kvs.foldl _ (ae acc kv.1 kv.2)).length<=acc.length+(kvs.length+1)
   lia
inductive Ce where
 | s (x:Str)
 | p (o:Option Tr)
abbrev oB:JK Tr->PyData
 | none=>.none
 | some t=>cG t
abbrev ceD:Ce->PyData
 | .s x=>.str x
 | .p o=>oB o
abbrev DM:Ce->Prop
 | .s x=>PyData.strOk x=true
 | .p o=>∀t,o=⇑t->bI t
def vE {K:Md} {ab:Mc} {H:Hp}:∀{o:JK Tr} {v:V},VB K ab H o v->au K H (oB o) v
 | none,_,h=>by cases h; unfold oB au; rfl
 | some _,_,h=>jQ h
def Ec:∀{c:Ce},DM c->ax 10 (ceD c)
 | .s _,h=>ax.str h
 | .p none,_=>ax.none
 | .p ⇑t,h=>(mD (h t rfl).2.1)*>(by have:=(h t rfl).2.2; lia)
def ke (xs:List V) (n:Nat):bu xs none ⇑(n:Int)=xs.take n:=by
 unfold bu;rw[show HT.sIx xs.length xs.length ⇑((n:Nat):Int)=min n xs.length from HT.sIx_nat _ _ n,HT.sIx_none,LJ,Lj];by_cases h:n<=xs.length
 . rw[MS h]
 . rw[MH ∅,LV (JN _),LV ∅]
def xg {K:Md} {H:Hp} {n:Nat}:∀{xs:List V} (m:Nat),bj K H n xs->bj K H n (xs.take m)
 | [],m,_=>by rw[MY]; exact .nil
 | x::xs,0,_=>.nil
 | x::xs,m+1,h=>by
   let#[ds,ls,z]:=h;cases ds with
   | nil=>unfold bF at z; cases z
   | cons d ds =>
     unfold bF at z;let#[_,_,e,z1,z2]:=z;cases e;exact .cons #[d,ls d JZ,z1] (xg m #[ds,λd hd=>ls d (JY _ hd),z2])
def tq {K:Md} {H H':Hp} {n:Nat} {xs:List V} (e:aA H H') (h:bj K H n xs):bj K H' n xs:=by let#[ds,l,z]:=h; show#[ds,l,bF.mono e ds xs z]
end Br
namespace St
open PySem L2 Gx Rk2 Bg Fl Wk K41
abbrev cV (ws:List Str) (a:V):Prop:=(∃z,a=.int z/\0<=z/\z<K21.wide)\/∃n∈ws,a=.str n
abbrev d9 (o:JK Tr):Prop:=∀u,o=⇑u->bI u
abbrev bx (vw:List (JK Tr)):Prop:=∀o∈vw,d9 o
def bI.num {z:Int} (h0:0<=z) (h1:z<K21.wide):bI (.num z):=#[qx h0 h1,trivial,by show 0<10; decide]
variable {t:Tr}
def TOk.tr (h:TOk t):bI t:=#[h.1,h.2.1,by have:=h.2.2.1; lia]
def d9.no:d9 none:=λu h=>by cases h
def d9.of (h:bI t):d9 ⇑t:=λu e=>by cases e; exact h
def iJ {m n:Str} (ns:List Str) (h:m≠n):(m::ns).idxOf n=ns.idxOf n+1:=by rw[List.idxOf_cons,beq_eq_false_iff_ne.mpr h];rfl
def rK:∀{ns:List Str} {vw:List (JK Tr)} {x:Str},x∈ns->vw.length=ns.length->∃o,lk ns vw x=⇑o/\o∈vw
 | [],_,_,h,_=>by cases h
 | n::ns,[],_,_,h=>by cases h
 | n::ns,v::vw,x,h,hl=>by
   unfold lk;by_cases e:x=n
   . show#[v,JR e,JZ]
   . let#[o,h1,h2]:=rK (ns:=ns) (vw:=vw) ((JT.mp h).resolve_left e) ↑hl;show#[o,by rw[JI e]; exact h1,JY _ h2]
def rX:∀{ns:List Str} {vw:List (JK Tr)} {x:Str} {i:Nat} {o:JK Tr},ns.idxOf x=i->x∈ns->vw[i]?=⇑o->lk ns vw x=⇑o
 | [],_,_,_,_,_,h,_=>by cases h
 | n::ns,[],_,i,_,_,_,h=>by simp at h
 | n::ns,v::vw,x,i,o,hi,hx,h=>by
   unfold lk;by_cases e:x=n
   . subst e;rw[KC] at hi;subst hi;rw[JR rfl];exact h
   . rw[JI e];rw[iJ _ (λz=>e z.symm)] at hi;subst hi;exact rX rfl ((JT.mp hx).resolve_left e) ↑h
def qy:∀{ns:List Str} {vw:List (JK Tr)} {x:Str} {o:JK Tr},x∈ns->vw.length=ns.length->lk ns (vw.set (ns.idxOf x) o)=dq (lk ns vw) x o
 | [],_,_,_,h,_=>by cases h
 | n::ns,[],_,_,_,h=>by cases h
 | n::ns,v::vw,x,o,hx,hl=>by
   funext m;unfold dq;by_cases e:x=n
   . subst e;rw[KC];show lk (x::ns) (o::vw) m=_;unfold lk;by_cases em:m=x
     . rw[JR em,JR em]
     . rw[JI em,JI em,JI em]
   . rw[iJ _ (λz=>e z.symm)];show lk (n::ns) (v::vw.set (ns.idxOf x) o) m=_;have ih:=congrFun (qy (ns:=ns) (vw:=vw) (o:=o) ((JT.mp hx).resolve_left e) ↑hl) m;unfold dq at ih;unfold lk;by_cases em:m=n
     . rw[JR em,JR em,JI (λz=>e (z.symm\em))]
     . rw[JI em,JI em,ih]
abbrev Tr9 (t:Tr):Prop:=okl (lvs t)/\eZ t/\dp t<9
abbrev ee (vw:List (JK Tr)):Prop:=∀t,⇑t∈vw->Tr9 t
def Tr9.ok (h:Tr9 t):bI t:=#[h.1,h.2.1,Le h.2.2 #[]]
def TOk.tr9 (h:TOk t):Tr9 t:=#[h.1,h.2.1,by have:=h.2.2.1; lia]
def ee.ok {vw:List (JK Tr)} (h:ee vw):bx vw:=λo ho u e=>(h u (e ▸ ho)).ok
def Tr9.num {z:Int} (h0:0<=z) (h1:z<K21.wide):Tr9 (.num z):=#[qx h0 h1,trivial,by show 0<9; decide]
def qo {α:Type} {l:List α} {i:Nat} {a b:α} (h:b∈l.set i a):b=a\/b∈l:=by
 rcases List.mem_or_eq_of_mem_set h with h|h
 . exact .inr h
 . exact .inl h
abbrev jb (g:Int->JK Tr) (p o:JK Tr):Bool:=match p with
 | none=>true
 | some t=>gu (pt g t) o
abbrev gj (g:Int->JK Tr) (vw kn:List (JK Tr)):Bool:=(vw.zip kn).all λpo=>jb g po.1 po.2
abbrev iO (g:Int->JK Tr) (vs Kn:List (List (JK Tr))):Bool:=(vs.zip Kn).all λp=>gj g p.1 p.2
abbrev xA (g:Int->JK Tr) (kd:Str) (L:List Lev) (ch:List (Str×Nat)) (Kn:List (List (JK Tr))):Bool:=!decide (kd="wait")&&(decide (L.map Lev.fr=ch)&&iO g (L.map Lev.vw) Kn)
structure HldOk (L:List Lev) (ch:List (Str×Nat)) (Kn:List (List (Option Tr))):Prop where
 n:∀e∈L,PyData.strOk e.F.name=true
 v:∀e∈L,bx e.vw
 c:∀c∈ch,PyData.strOk c.1=true
 k:∀kn∈Kn,bx kn
def sD:∀{fns:List F2.Fd} {F G:F2.Fd},(fns.map (·.name)).Nodup->F∈fns->G∈fns->F.name=G.name->F=G
 | [],_,_,_,h,_,_=>by cases h
 | f::fns,F,G,nd,h1,h2,e=>by
   rw[Jd,KN] at nd;rcases JT.mp h1 with z1|g1
   . rcases JT.mp h2 with z2|g2
     . rw[z1,z2]
     . exact absurd (Jh.mpr #[G,g2,by rw[<- e,z1]]) nd.1
   . rcases JT.mp h2 with z2|g2
     . exact absurd (Jh.mpr #[F,g1,by rw[e,z2]]) nd.1
     . exact sD nd.2 g1 g2 e
def uO (g:Int->JK Tr):∀{ns:List Str} {vw kn:List (JK Tr)} {b:Lv},(∀(i:Nat) n,ns[i]?=⇑n->∀o,kn[i]?=⇑o->b n=⇑o)->vw.length=ns.length->kn.length=ns.length->((ns.zip vw).all λnv=>iE g b nv.1 nv.2)=gj g vw kn
 | [],[],[],_,_,_,_=>rfl
 | n::ns,v::vw,k::kn,b,h,h1,h2=>by
   have ih:=uO g (ns:=ns) (vw:=vw) (kn:=kn) (b:=b) (λi m hm o ho=>h (i+1) m ↑hm o ↑ho) ↑h1 ↑h2;show(iE g b n v&&(ns.zip vw).all λnv=>iE g b nv.1 nv.2)=(jb g v k&&gj g vw kn);rw[ih];congr 1;cases v with
   | none=>rfl
   | some t =>
     show(match b n with|some o=>gu (pt g t) o|none=>false)=_;rw[h 0 n rfl k rfl];rfl
 | [],_::_,_,_,_,h,_=>by cases h
 | [],[],_::_,_,_,_,h=>by cases h
 | _::_,[],_,_,_,h,_=>by cases h
 | _::_,_::_,[],_,_,_,h=>by cases h
def wK:∀{ns:List Str} {i:Nat} {n:Str},ns.Nodup->ns[i]?=⇑n->ns.idxOf n=i
 | [],i,_,_,h=>by simp at h
 | m::ns,0,n,_,h=>by
   have:m=n:=↑h
   subst this;exact KC
 | m::ns,i+1,n,nd,h=>by
   rw[KN] at nd;have h:ns[i]?=⇑n:=↑h
   have:m≠n:=λz=>nd.1 (z ▸ JM h);rw[iJ _ this,wK nd.2 h]
def CH (g:Int->JK Tr) {e:Lev} {kn:List (JK Tr)} (h1:e.vw.length=(F2.nms e.F).length) (h2:kn.length=(F2.nms e.F).length):fM g e (lk (F2.nms e.F) kn)=gj g e.vw kn :=
 uO g (λi n hn o ho=>rX (wK (qO _) hn) (JM hn) ho) h1 h2
abbrev dM (Fs:List F2.Fd) (Kn:List (List (JK Tr))):List Lv:=(Fs.zip Kn).map λp=>lk (F2.nms p.1) p.2
structure FK (fns Fs:List F2.Fd) (Kn:List (List (Option Tr))):Prop where
 m:∀F∈Fs,F∈fns
 l:Kn.length=Fs.length
 k:∀p∈Fs.zip Kn,p.2.length=(F2.nms p.1).length
def pJ (g:Int->JK Tr) {fns:List F2.Fd} (nd:(fns.map (·.name)).Nodup):∀{L:List Lev} {Fs:List F2.Fd} {Kn:List (List (JK Tr))},(∀e∈L,LevOk fns e)->FK fns Fs Kn->L.map (λe=>e.F.name)=Fs.map (·.name)->((L.zip (dM Fs Kn)).all λeb=>fM g eb.1 eb.2)=iO g (L.map Lev.vw) Kn
 | [],[],[],_,_,_=>rfl
 | [],[],_::_,_,h,_=>by have:=h.l; cases this
 | [],_::_,_,_,_,h=>by cases h
 | _::_,[],_,_,_,h=>by cases h
 | _::_,_::_,[],_,h,_=>by have:=h.l; cases this
 | e::L,F::Fs,kn::Kn,hL,hF,hn=>by rw[Jd,Jd] at hn;have hn1:e.F.name=F.name:=(List.cons.inj hn).1;have eF:e.F=F:=sD nd (hL e JZ).m (hF.m F JZ) hn1;have ih:=pJ g nd (L:=L) (Fs:=Fs) (Kn:=Kn) (λe he=>hL e (JY _ he)) #[λF h=>hF.m F (JY _ h),by simpa using hF.l,λp hp=>hF.k p (JY _ hp)] (List.cons.inj hn).2;show(fM g e (lk (F2.nms F) kn)&&(L.zip (dM Fs Kn)).all λeb=>fM g eb.1 eb.2)=(gj g e.vw kn&&iO g (L.map Lev.vw) Kn);rw[ih,<- eF,CH g (hL e JZ).l (by have:=hF.k (F,kn) JZ; rw[eF]; exact this)]
def D3 {A:Ak} {k:Nat} {kd:Str} {L:List Lev} {ch:List (Str×Nat)} {Fs:List F2.Fd} {Kn:List (List (JK Tr))} (nd:(A.fns.map (·.name)).Nodup) (h1:A.ks[k]?=⇑kd) (h2:A.Ms[k]?=⇑L) (hL:∀e∈L,LevOk A.fns e) (hF:FK A.fns Fs Kn) (hn:ch.map (·.1)=Fs.map (·.name)):gS A k ch (dM Fs Kn)=xA (bZ A.ps) kd L ch Kn:=by
 unfold gS xA;rw[h1,h2];show(!decide (kd="wait")&&gV (bZ A.ps) L ch (dM Fs Kn))=_;congr 1;unfold gV;by_cases e:L.map Lev.fr=ch
 . rw[JG e,K3,K3];refine pJ _ nd hL hF ?_;rw[<- hn,<- e,K7];rfl
 . rw[JP e];rfl
def Ag {fns:List F2.Fd} (nd:(fns.map (·.name)).Nodup) (sn:∀F∈fns,PyData.strOk F.name=true) {ch:List (Str×Nat)} {Fs:List F2.Fd} {Kn:List (List (JK Tr))} (hF:FK fns Fs Kn) (hv:∀kn∈Kn,bx kn) (hn:ch.map (·.1)=Fs.map (·.name)):LvlOk fns ch (dM Fs Kn):=by
 show#[λc hc=>?_,λi c f hc hf F hFm e n hn'=>?_]
 . have:c.1∈Fs.map (·.name):=by rw[<- hn]; exact K' hc
   let#[F,hm,he]:=Jh.mp this;rw[<- he];exact sn F (hF.m F hm)
 . unfold dM at hf;rw[JS,Jg] at hf;let#[p,hp,rfl]:=hf;have hz:=Jz.mp hp;have:p.1.name=c.1:=by
     have h1:(Fs.map (·.name))[i]?=⇑p.1.name:=by rw[JS,hz.1]; rfl
     rw[<- hn,JS,hc] at h1;exact(Option.some.inj h1).symm
   have eF:F=p.1:=sD nd hFm (hF.m _ (JM hz.1)) (e\this.symm);subst eF;let#[o,h1,h2]:=rK hn' (hF.k p (JM hp));show#[o,h1,hv _ (JM hz.2) o h2]
variable {ws:List Str}
def xu (h:0<ws.length) (z:Int):∃n,(0:Int)<((ws.map V.str).length:Nat)/\ay (ws.map V.str) (z%((ws.map V.str).length:Nat))=⇑(.str n)/\n∈ws:=by
 have hl:(0:Int)<((ws.map V.str).length:Nat):=by rw[JE]; lia
 have b0:=L5 z (Int.ne_of_gt hl);have b1:=Kr z hl;have hj:(z%((ws.map V.str).length:Nat)).toNat<ws.length:=by rw[JE] at b1 ⊢; rw[JE] at b0; lia
 show#[ws[(z%((ws.map V.str).length:Nat)).toNat],hl,vN b0 (JU hj),KL hj]
def wH:∀{ws:List Str} {m:Nat} {n:Str},ws[m]?=⇑n->ws.idxOf n<=m
 | [],m,_,h=>by simp at h
 | w::ws,0,n,h=>by
   have:w=n:=↑h
   subst this;rw[KC];exact Jm _
 | w::ws,m+1,n,h=>by
   by_cases e:w=n
   . subst e;rw[KC];exact Jm _
   . rw[iJ _ e];have:=wH (ws:=ws) (m:=m) (n:=n) ↑h
     lia
def jt {n:Str} (hn:n∈ws) (hl:ws.length<=100):eI (.str n)=true/\(ws.map V.str).all eI=true/\ws.idxOf n<1000/\(∃z,(ws.map V.str)[ws.idxOf n]?=⇑z/\eQ z (.str n)=true)/\∀m z,m<ws.idxOf n->(ws.map V.str)[m]?=⇑z->eQ z (.str n)=false:=by
 have hi:ws.idxOf n<ws.length:=Ks hn;show#[rfl,?_,∅,#[.str n,?_,JG rfl],λm z hm hz=>?_]
 . rw[Kh];intro v hv;let#[s,_,rfl]:=Jh.mp hv;rfl
 . rw[JS,JU hi,List.getElem_idxOf];rfl
 . rw[JS,Jg] at hz;let#[s,hs,rfl]:=hz;refine JP λe=>?_;have e:s=n:=e;subst e;have:=wH hs
   lia
variable {us:List V} {H:Hp}
def BU {ko:List (JK Tr)} (h:0<us.length) (hp:Ps (aO H) us ko) (z:Int):∃u o,(0:Int)<(us.length:Nat)/\ay us (z%(us.length:Nat))=⇑u/\o∈ko/\aO H o u:=by
 have hl:(0:Int)<(us.length:Nat):=by lia
 have b0:=L5 z (Int.ne_of_gt hl);have b1:=Kr z hl;let#[u,o,a1,a2,a3]:=Ps.at hp (n:=(z%(us.length:Nat)).toNat) (by have:=Ps.len hp; lia);show#[u,o,hl,?_,JM a2,a3];have:z%(us.length:Nat)=(((z%(us.length:Nat)).toNat:Nat):Int):=by lia
 rw[this];exact bf a1
def qd {K:Md} {H:Hp}:∀{us:List V} {ko:List (JK Tr)},Ps (aO H) us ko->bF K H (ko.map oD) us
 | [],[],_=>by rw[Kb]; unfold bF; rfl
 | u::us,o::ko,h=>by rw[Jd];unfold bF;show#[9,FM h.1,qd h.2]
def E9 {ko:List (JK Tr)} (h:bx ko):ax 11 (.list (ko.map oD)):=ax.list λd hd=>by let#[o,ho,rfl]:=Jh.mp hd;exact wy (h o ho)
variable {K:Md} {Q:VK}
def Bn {l q:Mc} {ko:List (JK Tr)} (h1:aE K H l us) (h2:Ps (aO H) us ko) (h3:bx ko) (hq:aE K H q []) (h:Q (.bl (!decide (us=[]))) H):gk K ↥l ↥q H Q:=by
 show#[_,.list [],(by unfold au; show#[l,us,rfl,h1,qd h2]),(by unfold au; show#[q,[],rfl,hq,by unfold bF; rfl]),(E9 h3).shaped #[],ax.shaped (n:=1) (ax.list λd hd=>by cases hd) #[],?_];have e:PyData.eqv (.list (ko.map oD)) (.list [])=decide (us=[]):=by
   cases us with
   | nil=>cases ko with
     | nil=>unfold PyData.eqv PyData.eqvAll; rfl
     | cons=>exact h2.elim
   | cons u us=>cases ko with
     | nil=>exact h2.elim
     | cons o ko=>rw[Jd]; unfold PyData.eqv PyData.eqvAll; rfl
 rw[e];exact h
def Cj {q:Mc} {x:V} {k:Int} (ht:bI t) (hx:RAt H t x) (hq:H q=⇑(.tup [.str "box",.int k])) (h:Q (.bl (!decide (t=.box k))) H):gk K x ↥q H Q :=
 #[bL t,bL (.box k),dR hx,dR (t:=.box k) #[q,rfl,hq],ht.lay.shaped #[],(iD (t:=.box k) trivial).shaped (show 0+1<=64 by decide),by rw[pX]; exact h]
def Aq {q:Mc} {x:V} {k:Int} (ht:bI t) (hx:RAt H t x) (hq:H q=⇑(.tup [.str "box",.int k])) (h:Q (.bl (decide (t=.box k))) H):jU K x ↥q H Q :=
 #[bL t,bL (.box k),dR hx,dR (t:=.box k) #[q,rfl,hq],ht.lay.shaped #[],(iD (t:=.box k) trivial).shaped (show 0+1<=64 by decide),by rw[pX]; exact h]
def CD {u:Tr}{x y:V} (ht:bI t) (hu:bI u) (hx:RAt H t x) (hy:RAt H u y) (h:Q (.bl (PyData.eqv (bL t) (bL u))) H):jU K x y H Q :=
 #[bL t,bL u,dR hx,dR hy,ht.lay.shaped #[],hu.lay.shaped #[],h]
abbrev dA (H:Hp) (vw:List (JK Tr)) (v:V):Prop:=∃l us,v=↥l/\H l=⇑(.lst us)/\Ps (aO H) us vw
def dA.mono {H H':Hp} {vw:List (JK Tr)} {v:V} (e:aA H H') (h:dA H vw v):dA H' vw v:=by let#[l,us,h1,h2,h3]:=h; show#[l,us,h1,e _ _ h2,Ps.imp (λ_ _ z=>aO.mono z e) h3]
abbrev iU (H0 H:Hp) (vw:List (JK Tr)) (v:V):Prop:=∃l us,v=↥l/\H0 l=none/\H l=⇑(.lst us)/\Ps (aO H) us vw
def iU.mono {H0 H H':Hp} {vw:List (JK Tr)} {v:V} (e:aA H H') (h:iU H0 H vw v):iU H0 H' vw v:=by let#[l,us,h1,h0,h2,h3]:=h; show#[l,us,h1,h0,e _ _ h2,Ps.imp (λ_ _ z=>aO.mono z e) h3]
variable {v:V}
def dA.a {vw:List (JK Tr)} (h:dA H vw v):gy K H vw v:=by let#[l,us,h1,h2,h3]:=h; show#[l,us,h1,aE.of h2,h3]
def bx.app {a b:List (JK Tr)} (h:bx a) (h':bx b):bx (a++b):=λo ho=>(JV.mp ho).elim (h o) (h' o)
def Bh {α:Type} (xs:List α) (v:α):cT (xs++[v]).length (-1)=⇑xs.length:=by
 unfold cT;rw[JI #[],JR (by rw[JF]; simp; lia)];congr 1;rw[JF];simp
 lia
def FW {α:Type} (xs:List α) (v w:α):(xs++[v]).set xs.length w=xs++[w]:=by rw[List.set_append_right _ _ (JN _),KG];rfl
def kU {α:Type} {P:Nat->α->V->Prop}:∀{vs:List V},(∀(i:Nat) v,vs[i]?=⇑v->∃x,P i x v)->∃xs:List α,xs.length=vs.length/\(∀(i:Nat) x,xs[i]?=⇑x->∃v,vs[i]?=⇑v/\P i x v)/\Ps (λx v=>∃i,P i x v) vs xs
 | [],_=>#[[],rfl,λi x h=>by simp at h,trivial]
 | v::vs,h=>by
   let#[x,hx]:=h 0 v rfl;let#[xs,h1,h2,h3]:=kU (P:=λi=>P (i+1)) (vs:=vs) λi w hw=>h (i+1) w ↑hw;show#[x::xs,by rw[Jo,Jo,h1],λi y hy=>?_,#[(0),hx],Ps.imp (λ_ _ z228_=>by let#[i,z]:=z228_; show#[i+1,z]) h3];rcases i with _|i
   . have:x=y:=↑hy
     subst this;show#[v,rfl,hx]
   . let#[w,a,b]:=h2 i y ↑hy;show#[w,by simpa using a,b]
def BB {α β:Type} {xs:List (List α)} {ys:List (List β)} (h:xs.length=ys.length) (f:∀(i:Nat) x,xs[i]?=⇑x->∃y,ys[i]?=⇑y/\x.length=y.length):xs.map List.length=ys.map List.length:=by
 refine L6 λi=>?_;rw[JS,JS];cases e:xs[i]? with
 | none =>
   have:ys[i]?=none:=by
     rw[Jy] at e ⊢
     lia
   rw[this];rfl
 | some x =>
   let#[y,h1,h2]:=f i x e;rw[h1];exact JW some h2
def oV {H:Hp} {l:Mc} {xs:List V} (hl:H l=⇑(.lst xs)):∀{t:Tr} {v:V},RAt H t v->RAt (ers l H) t v
 | .box _,_,h=>by let#[p,e,z]:=h; show#[p,e,by rw[bW (λy=>by rw[y,hl] at z; cases z)]; exact z]
 | .num _,_,h=>by let#[p,e,z]:=h; show#[p,e,by rw[bW (λy=>by rw[y,hl] at z; cases z)]; exact z]
 | .op _ _ _,_,h=>by let#[p,a,b,e,z,z1,z2,z3,z4]:=h; show#[p,a,b,e,(by rw[bW (λy=>by rw[y,hl] at z; cases z)]; exact z),z1,z2,oV hl z3,oV hl z4]
def jp {l:Mc} {xs:List V} (hl:H l=⇑(.lst xs)):∀{o:JK Tr} {v:V},aO H o v->aO (ers l H) o v
 | none,_,h=>h
 | some _,_,h=>oV hl h
def dA.erl {p l:Mc} {acc:List V}{vw:List (JK Tr)} (hp:H p=⇑(.lst acc)) (hl:H l=⇑(.lst us)) (n:l≠p) (h:Ps (aO H) us vw):dA (ers p H) vw ↥l:=#[l,us,rfl,by rw[bW n]; exact hl,Ps.imp (λ_ _ z=>jp hp z) h]
def xk {bs:List Int} (h:iG bs) (z:Int):∃b,ay (bs.map V.int) (z%8)=⇑(.int b)/\0<=b/\b<128:=by let#[b,e1,e2,e3]:=mT h z;rw[JE,h.1] at e2;show#[b,e2,e3]
def Dr {acc:List Str} {s:Str} (h:s∈acc):K12.step acc s=acc:=JR h
def sC:∀{ss acc:List Str},(∀s∈ss,s∈acc)->ss.foldl K12.step acc=acc
 | [],_,_=>rfl
 | s::ss,acc,h=>by show ss.foldl K12.step (K12.step acc s)=acc;rw[Dr (h s JZ)];exact sC λt ht=>h t (JY _ ht)
def qI:∀{ss acc:List Str},(acc++ss).Nodup->ss.foldl K12.step acc=acc++ss
 | [],acc,_=>(K5 acc).symm
 | s::ss,acc,h=>by
   have hs:s ∉ acc:=λz=>by rw[Ky] at h;exact h.2.2 s z s JZ rfl
   show ss.foldl K12.step (K12.step acc s)=_;rw[show K12.step acc s=acc++[s] from JI hs,qI (by rw[Jn]; exact h),Jn];rfl
def xp {ps:List Str} {ds:List K12.RowD} (nd:ps.Nodup) (h:∀d∈ds,∀s∈K12.rowStrs d,s∈ps):K12.onceL (K12.allOf ps ds)=ps:=by unfold K12.onceL K12.allOf;rw[K0,qI (acc:=[]) ↑nd,Ld];refine sC λs hs=>?_;let#[d,hd,hs]:=List.mem_flatMap.mp hs;exact h d hd s hs
abbrev gB (K:Md) (H:Hp) (ws:List Str) (x:RR):Prop:=Ic K H x/\∀s∈K12.rowStrs x.d,s∈ws
abbrev gI (ws:List Str) (v:V):Prop:=(∃i,v=.int i)\/∃n∈ws,v=.str n
def cV.i {a:V} (h:cV ws a):gI ws a:=h.elim (λz229_=>by let#[z,e,_]:=z229_; exact .inl #[z,e]) .inr
def gI.atom (hw:∀w∈ws,K12.Nm w) (h:gI ws v):K12.Atom v:=h.elim .inr λz230_=>by let#[n,hn,e]:=z230_; exact .inl #[n,e,hw n hn]
def gI.has {n:Nat} (hw:∀w∈ws,K12.Nm w) (h:gI ws v):bH K H n v:=by
 rcases h with⟨i,rfl⟩|⟨s,hs,rfl⟩
 . exact .int
 . exact .str (hw s hs).2
def sT {as:List V} (h:∀v∈as,gI ws v):∀s∈K12.strsOf as,s∈ws:=λs hs=>by
 unfold K12.strsOf at hs;let#[v,hv,e]:=Lw.mp hs;rcases h v hv with⟨i,rfl⟩|⟨n,hn,rfl⟩
 . simp at e
 . have:n=s:=↑e
   rw[<- this]; exact hn
section
variable {K:Md} {H:Hp} {ws:List Str}
def je {r:Mc} {a:V} (hw:∀w∈ws,K12.Nm w) (rg:RG) (hg:rg=.out a\/rg=.back a\/rg=.ifs a\/rg=.whl a) (h:aD K H r rg.items) (ha:gI ws a):gB K H ws (rg.rr r):=by
 have e1:rg.as=[a]/\rg.gx=none/\rg.items=[.str rg.kind,a]/\PyData.strOk rg.kind=true:=by
   rcases hg with rfl|rfl|rfl|rfl
   . show#[15,show PyData.strOk "out"=true by decide +kernel]
   . show#[15,show PyData.strOk "back"=true by decide +kernel]
   . show#[15,show PyData.strOk "if"=true by decide +kernel]
   . show#[15,show PyData.strOk "while"=true by decide +kernel]
 have ok:rg.Ok:=by
   show#[λv hv=>?_,?_,#[?_,?_],?_]
   . unfold RG.parts at hv;rw[e1.1,e1.2.1] at hv;have:v=a:=↑hv
     rw[this]; exact ha.atom hw
   all_goals (intros; rcases hg with rfl|rfl|rfl|rfl <;> simp_all)
 show#[#[rq #[h,?_] ok,bH.tup h ?_],λs hs=>?_]
 . intros; rcases hg with rfl|rfl|rfl|rfl <;> simp_all
 . rw[e1.2.2.1];exact .cons (.str e1.2.2.2) (.cons (ha.has hw) .nil)
 . have hs:s∈rg.gx.toList++K12.strsOf rg.as:=hs;rw[e1.1,e1.2.1] at hs;exact sT (λv hv=>by cases JO.mp hv; exact ha) s ↑hs
def xf {r:Mc} {x:Str} {a:V} (hw:∀w∈ws,K12.Nm w) (h:aD K H r [.str "copy",.str x,a]) (hx:x∈ws) (ha:gI ws a):gB K H ws ((RG.copy x a).rr r):=by
 show#[#[rq #[h,λx g p as e=>by cases e] #[λv hv=>?_,λ_ _ _ _ e=>(by cases e),#[λ_ _ _ e=>(by cases e),λ_ _ _ e=>(by cases e)],λ_ _ _ _ e=>(by cases e)],bH.tup h (.cons (.str 0x3) (.cons (.str (hw x hx).2) (.cons (ha.has hw) .nil)))],λs hs=>?_]
 . have hv:v∈[V.str x,a]:=hv;rcases JT.mp hv with rfl|hv
   . exact gI.atom hw (.inr #[x,hx,rfl])
   . cases JO.mp hv; exact ha.atom hw
 . have hs:s∈[x]++K12.strsOf [a]:=hs;rcases JV.mp hs with hs|hs
   . cases JO.mp hs; exact hx
   . exact sT (λv hv=>by cases JO.mp hv; exact ha) s hs
def ql {r p:Mc} {x g:Str} {as:List V} (hw:∀w∈ws,K12.Nm w) (h:aD K H r [.str "call",.str x,.str g,↥p]) (hp:aD K H p as) (hx:x∈ws) (hg:K12.Nm g) (ha:∀v∈as,gI ws v) (hl:as.length<=10):gB K H ws ((RG.call x g p as).rr r):=by
 show#[#[rq #[h,λx g p as e=>by cases e; exact hp] #[λv hv=>?_,λ_ _ _ _ e=>(by cases e),#[λ_ _ _ e=>(by cases e),λ_ _ _ e=>(by cases e)],λ_ _ _ _ e=>(by cases e; show#[hg.2,hl])],bH.tup h (.cons (.str 0x3) (.cons (.str (hw x hx).2) (.cons (.str hg.2) (.cons (bH.tup (n:=1) hp (bj.of λv hv=>(ha v hv).has hw)) .nil))))],λs hs=>?_]
 . have hv:v∈[V.str x]++as:=hv;rcases JV.mp hv with hv|hv
   . cases JO.mp hv; exact gI.atom hw (.inr #[x,hx,rfl])
   . exact(ha v hv).atom hw
 . have hs:s∈[x]++K12.strsOf as:=hs;rcases JV.mp hs with hs|hs
   . cases JO.mp hs; exact hx
   . exact sT ha s hs
end
def cut_mem {xs:List V} {a b:JK Int}:∀v∈bu xs a b,v∈xs:=λv hv=>by unfold bu at hv;exact Lm (Ll hv)
def cut_len {xs:List V} {a b:JK Int}:(bu xs a b).length<=xs.length:=by
 unfold bu;rw[Jk,KI]
 lia
def m6 {vw:List (JK Tr)} (i:Nat) {o:JK Tr} (h:Ps (aO H) us vw) (hv:aO H o v):Ps (aO H) (us.set i v) (vw.set i o):=by
 induction us generalizing vw i with
 | nil =>
   cases vw with
   | nil=>trivial
   | cons w vw=>exact h.elim
 | cons u us ih =>
   cases vw with
   | nil=>exact h.elim
   | cons w vw =>
     cases i with
     | zero=>show#[hv,h.2]
     | succ i=>show#[h.1,ih i h.2]
def i6 {n j:Nat} (h:j<n):cT n (j:Int)=⇑j:=by unfold cT;rw[JR ∅,JR ∅];congr 1
def nL {α:Type} (n:Nat) (x:α):(List.replicate n [x]).flatten=List.replicate n x:=by
 induction n with
 | zero=>rfl
 | succ n ih=>rw[Kf,Kp,ih]; rfl
def vJ (n:Nat) (c:RR) (tail:List RR):(List.replicate n c++tail).map (λx=>V.ref x.w.r)=List.replicate n (V.ref c.w.r)++tail.map λx=>V.ref x.w.r:=by rw[JL,List.map_replicate]
def cx {cs:List Int} {j:Nat} (h:j<cs.length):∃c,ay (cs.map V.int) (j:Int)=⇑(.int c):=#[cs[j],bf (by rw[JS,JU h]; rfl)]
def Ps.get {α:Type} {R:α->V->Prop} {us:List V} {ts:List α} {i:Nat} {x:α} (h:Ps R us ts) (e:ts[i]?=⇑x):∃u,us[i]?=⇑u/\R x u:=by let#[u,t,a,b,c]:=Ps.at h (n:=i) (JH.mp e).1;rw[e] at b;cases b;show#[u,a,c]
abbrev dn (K:Md) (H:Hp) (m:Mrk) (v:V):Prop:=∃p c w ws,v=↥p/\H p=⇑(.tup [c,↥w])/\cX K H m.ch c/\H w=⇑(.lst ws)/\Ps (dA H) ws m.vs
def dn.mono {K:Md} {H H':Hp} {m:Mrk} {v:V} (e:aA H H') (h:dn K H m v):dn K H' m v:=by let#[p,c,w,ws,h1,h2,h3,h4,h5]:=h; show#[p,c,w,ws,h1,e _ _ h2,h3*>e,e _ _ h4,Ps.imp (λ_ _ z=>z*>e) h5]
def dn.a {K:Md} {H:Hp} {m:Mrk} {v:V} (h:dn K H m v):gW K H m v:=by let#[p,c,w,ws,h1,h2,h3,h4,h5]:=h; show#[p,c,w,ws,h1,aD.of h2,h3,aE.of h4,Ps.imp (λ_ _ z=>z.a) h5]
abbrev j4 (K:Md) (H G:Hp) (o v:V):Prop:=∃lo us l,o=↥lo/\H lo=⇑(.lst us)/\v=↥l/\G l=⇑(.lst us)
abbrev gi (K:Md) (H G:Hp) (o v:V):Prop:=∃po c w ws q w' vs,o=↥po/\H po=⇑(.tup [c,↥w])/\H w=⇑(.lst ws)/\v=↥q/\G q=⇑(.tup [c,↥w'])/\G w'=⇑(.lst vs)/\Ps (j4 K H G) vs ws
section
variable {K:Md} {H G G':Hp}
def j4.mono {o:V}(e:aA G G') (h:j4 K H G o v):j4 K H G' o v:=by let#[a,b,c,d1,d2,d3,d4]:=h; show#[a,b,c,d1,d2,d3,e _ _ d4]
def gi.mono {o v:V} (e:aA G G') (h:gi K H G o v):gi K H G' o v:=by let#[a,b,c,d,f,g,i,h1,h2,h3,h4,h5,h6,h7]:=h; show#[a,b,c,d,f,g,i,h1,h2,h3,h4,e _ _ h5,e _ _ h6,Ps.imp (λ_ _ z=>z*>e) h7]
def vP:∀{os vs:List V} {vws:List (List (JK Tr))},aA H G->Ps (dA H) os vws->Ps (j4 K H G) vs os->Ps (gy K G) vs vws
 | [],[],[],_,_,_=>trivial
 | o::os,v::vs,vw::vws,e,h1,h2=>by obtain⟨⟨lo,us,rfl,a1,a2⟩,h1⟩:=h1;obtain⟨⟨lo',us',l,eq,b1,rfl,b2⟩,h2⟩:=h2;cases eq;rw[a1] at b1;cases b1;show#[#[l,5,aE.of b2,Ps.imp (λ_ _ z=>aO.mono z e) a2],vP e h1 h2]
 | [],_::_,_,_,_,h=>h.elim
 | _::_,[],_,_,_,h=>h.elim
 | [],[],_::_,_,h,_=>h.elim
 | _::_,_::_,[],_,h,_=>h.elim
def Ez {m:Mrk} {o:V}(e:aA H G) (h1:dn K H m o) (h2:gi K H G o v):gW K G m v:=by let#[p,c,w,ws,rfl,a1,a2,a3,a4]:=h1;let#[po,c',w1,ws',q,w',vs,eq,b1,b2,rfl,b3,b4,b5]:=h2;cases eq;rw[a1] at b1;cases b1;rw[a3] at b2;cases b2;show#[q,c,w',vs,rfl,aD.of b3,a2*>e,aE.of b4,vP e a4 b5]
def DV {vw:List (JK Tr)} (ok:bx vw) (h:Ps (aO H) us vw):bj K H 10 us:=#[vw.map oD,λd hd=>by let#[o,ho,rfl]:=Jh.mp hd; exact wy (ok o ho),qd h]
def bj.mono {n:Nat} {xs:List V} (e:aA H G) (h:bj K H n xs):bj K G n xs:=by let#[ds,l,z]:=h; show#[ds,l,bF.mono e ds xs z]
def xE:∀{os vs:List V} {vws:List (List (JK Tr))},aA H G->(∀vw∈vws,bx vw)->Ps (dA H) os vws->Ps (j4 K H G) vs os->eM K G 11 vs os
 | [],[],[],_,_,_,_=>.nil
 | o::os,v::vs,vw::vws,e,ok,h1,h2=>by obtain⟨⟨lo,us,rfl,a1,a2⟩,h1⟩:=h1;obtain⟨⟨lo',us',l,eq,b1,rfl,b2⟩,h2⟩:=h2;cases eq;rw[a1] at b1;cases b1;exact .cons (cu.lst (aE.of b2) (aE.of (e _ _ a1)) (eM.of (bj.mono e (DV (ok vw JZ) a2)))) (xE e (λvw h=>ok vw (JY _ h)) h1 h2)
 | [],_::_,_,_,_,_,h=>h.elim
 | _::_,[],_,_,_,_,h=>h.elim
 | [],[],_::_,_,_,h,_=>h.elim
 | _::_,_::_,[],_,_,h,_=>h.elim
def Gi {m:Mrk} {o:V}(e:aA H G) (ok:∀vw∈m.vs,bx vw) (sn:∀c∈m.ch,PyData.strOk c.1=true) (h1:dn K H m o) (h2:gi K H G o v):cu K G 13 v o:=by let#[p,c,w,ws,rfl,a1,a2,a3,a4]:=h1;let#[po,c',w1,ws',q,w',vs,eq,b1,b2,rfl,b3,b4,b5]:=h2;cases eq;rw[a1] at b1;cases b1;rw[a3] at b2;cases b2;exact cu.tup (aD.of b3) (aD.of (e _ _ a1)) (.cons (cu.of (n:=12) #[_,(px sn)*>#[],(a2*>e).dat]) (.cons (cu.lst (aE.of b4) (aE.of (e _ _ a3)) (xE e ok a4 b5)) .nil))
end
abbrev Ak.mv (A:Ak) (mvs:List V):Ak:={ A with mvs:=mvs }
def Ps.of_at {α:Type} {R:α->V->Prop}:∀{vs:List V} {os:List α},vs.length=os.length->(∀(i:Nat) v o,vs[i]?=⇑v->os[i]?=⇑o->R o v)->Ps R vs os
 | [],[],_,_=>trivial
 | v::vs,o::os,h,f=>#[f 0 v o rfl rfl,Ps.of_at ↑h λi v o a b=>f (i+1) v o ↑a ↑b]
 | [],_::_,h,_=>by cases h
 | _::_,[],h,_=>by cases h
def ux {K:Md} {H G:Hp}:∀{os vs:List V} {Ms:List (List Lev)},aA H G->Ps (λL v=>dn K H (eR L) v) os Ms->Ps (gi K H G) vs os->Ps (λL v=>gW K G (eR L) v) vs Ms
 | [],[],[],_,_,_=>trivial
 | o::os,v::vs,L::Ms,e,h1,h2=>#[Ez e h1.1 h2.1,ux e h1.2 h2.2]
 | [],_::_,_,_,_,h=>h.elim
 | _::_,[],_,_,_,h=>h.elim
 | [],[],_::_,_,h,_=>h.elim
 | _::_,_::_,[],_,h,_=>h.elim
def wY {K:Md} {H G:Hp}:∀{os vs:List V} {Ms:List (List Lev)},aA H G->(∀L∈Ms,∀e∈L,bx e.vw/\PyData.strOk e.F.name=true)->Ps (λL v=>dn K H (eR L) v) os Ms->Ps (gi K H G) vs os->eM K G 13 vs os
 | [],[],[],_,_,_,_=>.nil
 | o::os,v::vs,L::Ms,e,ok,h1,h2=>.cons (Gi e (λvw h=>by let#[l,hl,rfl]:=Jh.mp h; exact(ok L JZ l hl).1) (λc h=>by let#[l,hl,rfl]:=Jh.mp h; exact(ok L JZ l hl).2) h1.1 h2.1) (wY e (λL h=>ok L (JY _ h)) h1.2 h2.2)
 | [],_::_,_,_,_,_,h=>h.elim
 | _::_,[],_,_,_,_,h=>h.elim
 | [],[],_::_,_,_,h,_=>h.elim
 | _::_,_::_,[],_,_,h,_=>h.elim
end St
namespace St
open PySem L2
abbrev AlP (H:Hp):List (Mc×HO)->Prop
 | []=>True
 | x::L=>H x.1=⇑x.2/\AlP H L
abbrev Al (H0 H:Hp) (L:List (Mc×HO)):Prop:=aA H0 H/\AlP H L
section
variable {H0 H H':Hp} {L:List (Mc×HO)} {q:Mc} {o:HO}
def AlP.mono (s:aA H H'):∀{L:List (Mc×HO)},AlP H L->AlP H' L
 | [],_=>trivial
 | _::_,h=>#[s _ _ h.1,AlP.mono s h.2]
def Al.nil:Al H H []:=#[aA.refl _,trivial]
def Al.mono (h:Al H0 H L) (s:aA H H'):Al H0 H' L:=#[h.1\s,h.2*>s]
def Al.re (h:Al H0 H L):Al H H L:=#[aA.refl _,h.2]
def Al.add (h:Al H0 H L) (e:H q=⇑o):Al H0 H ((q,o)::L):=#[h.1,e,h.2]
def Al.new (h:Al H0 H L) (k:H q=none):Al H0 (upd H q o) ((q,o)::L):=(h*>(aA.new k)).add aG
end
end St
namespace St
open PySem L2 Gx Rk2 Bg Fl Wk K41
abbrev bK (s m:Mc) (H:Hp):Hp:=ers m (ers s H)
variable {o:HO}
section
variable {s m:Mc} {H H':Hp}
def mZ:aA (bK s m H) H:=cZ\cZ
def dm (e:aA H H'):aA (bK s m H) (bK s m H'):=aA.ers (aA.ers e)
def hJ :bK s m (upd H s o)=bK s m H:=by unfold bK; rw[fH]
def iH :bK s m (upd H m o)=bK s m H:=by
 funext b;unfold bK ers;by_cases h:b=m
 . rw[JR h,JR h]
 . rw[JI h,JI h];by_cases h':b=s
   . rw[JR h',JR h']
   . rw[JI h',JI h',am h]
def rJ {b:Mc} (h1:b≠s) (h2:b≠m):bK s m H b=H b:=by unfold bK; rw[bW h2,bW h1]
def Be {xs ys:List V} (hs:H s=⇑(.lst xs)) (hm:H m=⇑(.lst ys)) {o:JK Tr} {v:V} (h:aO H o v):aO (bK s m H) o v:=by
 have h1:=jp hs h;unfold bK;by_cases e:m=s
 . subst e;have:ers m (ers m H)=ers m H:=by funext b; unfold ers; split <;> rfl
   rw[this]; exact h1
 . exact jp (by rw[bW e]; exact hm) h1
end
def pR {α:Type} {R:α->V->Prop} {x:α} {v:V} (h:R x v):∀m,Ps R (List.replicate m v) (List.replicate m x)
 | 0=>trivial
 | m+1=>#[h,pR h m]
def Ps.set {α:Type} {R:α->V->Prop}:∀{us:List V} {ts:List α} (i:Nat) {x:α} {v:V},Ps R us ts->R x v->Ps R (us.set i v) (ts.set i x)
 | [],[],_,_,_,_,_=>trivial
 | u::us,w::vw,0,_,_,h,hv=>#[hv,h.2]
 | u::us,w::vw,i+1,_,_,h,hv=>#[h.1,Ps.set i h.2 hv]
abbrev gH (K:Md) (H:Hp) (kd:Str) (v:V):Prop:=jj K H kd v/\bH K H 13 v
def gH.mono {K:Md} {H H':Hp} {kd:Str} {v:V} (e:aA H H') (h:gH K H kd v):gH K H' kd v:=#[h.1*>e,h.2*>e]
def uA {K:Md} {H:Hp}:∀{xs:List V} {ps:List (Int×Tr)},(∀b∈ps,bI b.2)->Ps (gR K H) xs ps->bj K H 11 xs
 | [],[],_,_=>.nil
 | x::xs,b::ps,ok,h=>by obtain⟨⟨p,y,rfl,h1,h2⟩,h3⟩:=h;exact .cons (bH.tup h1 (.cons .int (.cons #[bL b.2,(ok b JZ).lay,dR h2] .nil))) (uA (λc hc=>ok c (JY _ hc)) h3)
variable {H:Hp}
def dW {l q:Mc} (h:H l=⇑o) (n:H q=none):q≠l:=λz=>by rw[z,h] at n; cases n
def EA {a b:Mc} :ers a (ers b H)=ers b (ers a H):=by
 funext x;unfold ers;by_cases h1:x=a
 . rw[JR h1]; split <;> rfl
 . rw[JI h1,JI h1]
def mE {a b q:Mc} (n:q≠a/\q≠b) (h:H q=⇑o):ers a (ers b H) q=⇑o:=by rw[bW n.1,bW n.2]; exact h
def xU {K:Md} {H:Hp}:∀{svs:List V} {ks:List Str},Ps (gH K H) svs ks->bj K H 13 svs
 | [],[],_=>.nil
 | v::svs,k::ks,h=>.cons h.1.2 (xU h.2)
def FY {K:Md} {u w y x:Mc} (h1:H u=⇑(.tup [↥w,↥y])) (h2:H w=⇑(.lst [])) (h3:H y=⇑(.tup [.str "back",↥x])) (h4:H x=⇑(.tup [.str "num",.int 0])):gH K H "back" ↥u :=
 #[#[u,_,y,5,aD.of h1,aD.of h3],bH.tup (n:=12) (aD.of h1) (.cons (bH.lst (n:=11) (aE.of h2) .nil) (.cons (bH.tup (n:=11) (aD.of h3) (.cons (.str 0x3) (.cons (bH.tup (n:=10) (aD.of h4) (.cons (.str 0x3) (.cons .int .nil))) .nil))) .nil))]
end St
namespace Br
open PySem L2 Gx Rk2 Bg Fl Wk St
def qV:∀{t:Tr},(∀k,(true,k)∈lvs t->0<=k/\k<128)->bh t
 | .box k,h=>λz=>by have:=h k (JO.mpr rfl); lia
 | .num _,_=>trivial
 | .op _ l r,h=>#[qV λk hk=>h k (JV.mpr (.inl hk)),qV λk hk=>h k (JV.mpr (.inr hk))]
def iS {t:Tr} (h:TOk t):bh t:=qV h.2.2.2
abbrev fK (o:JK Tr):Prop:=∀t,o=⇑t->bh t
abbrev KnO (o:JK Tr):Prop:=∀t,o=⇑t->bI t/\(t=.box (-1)\/bh t)
abbrev dP (vw:List (JK Tr)):Prop:=∀o∈vw,KnO o
def dP.ok {vw:List (JK Tr)} (h:dP vw):bx vw:=λo ho t e=>(h o ho t e).1
def dP.app {a b:List (JK Tr)} (h:dP a) (h':dP b):dP (a++b):=λo ho=>(JV.mp ho).elim (h o) (h' o)
def dP.of {vw:List (JK Tr)} (h:bx vw) (n:cQ vw):dP vw:=λo ho t e=>#[h o ho t e,.inr (n t (e ▸ ho))]
abbrev sR (t:Tr):Prop:=bI t/\(t=.box (-1)\/bh t)
def fK.no:fK none:=λt e=>by cases e
def fK.of {t:Tr} (h:bh t):fK ⇑t:=λu e=>by cases e; exact h
end Br
namespace Br
open PySem L2 Gx Rk2 Bg Fl Wk St K41
abbrev Bv (bv:V) (fb:JK Int):Prop:=bv=.non/\fb=none\/∃i,bv=.int i/\fb=⇑i/\¬ i=-1
structure Tr4 (H:Hp) (t:Tr) (v:V):Prop where
 r:RAt H t v
 o:bI t
 n:bh t
def Tr4.mono {H H':Hp} {t:Tr} {v:V} (e:aA H H') (h:Tr4 H t v):Tr4 H' t v:=#[h.r*>e,h.o,h.n]
def j5 {ws:List Str} {vw:List (JK Tr)} {a:V} (h:cV ws a) (hl:vw.length=ws.length) (hv:ee vw) (hn:cQ vw):∃o,cz (lk ws vw) a=⇑o/\(∀u,o=⇑u->Tr9 u)/\fK o:=by
 rcases h with⟨z,rfl,h0,h1⟩|⟨n,hm,rfl⟩
 . show#[5,(λu e=>by cases e; exact .num h0 h1),.of trivial]
 . let#[o,h1,h2]:=rK hm hl;show#[o,h1,(λu e=>hv u (e ▸ h2)),λu e=>hn u (e ▸ h2)]
section
variable {K:Md} {H:Hp} {Q:VK} {t u:Tr} {x y:V}
def E2 (ht:bI t) (hu:bI u) (hx:RAt H t x) (hy:RAt H u y) (q:Q (.bl (decide (t=u))) H):jU K x y H Q:=#[bL t,bL u,dR hx,dR hy,ht.lay.shaped #[],hu.lay.shaped #[],by rw[lE]; exact q]
def DQ (ht:bI t) (hu:bI u) (hx:RAt H t x) (hy:RAt H u y) (q:Q (.bl (!decide (t=u))) H):gk K x y H Q:=#[bL t,bL u,dR hx,dR hy,ht.lay.shaped #[],hu.lay.shaped #[],by rw[lE]; exact q]
end
def pc:bI (.box (-1)):=#[λv hv=>absurd (JO.mp hv) (λz=>by cases z),trivial,by show 0<10; decide]
structure TwoM (K:W.Frag) (C:Hp) (sA mA:Addr) (fns:List F2.Fd) (G:Hp) (svs:List V) (ks:List Str) (mvs:List V) (Ms:List (List Lev)):Prop where
 b:aA C (bK sA mA G)
 c1:C sA=none
 c2:C mA=none
 s:G sA=⇑(.lst svs)
 m:G mA=⇑(.lst mvs)
 ne:sA≠mA
 ss:Ps (gH K (bK sA mA G)) svs ks
 sl:ks.length=3
 ms:Ps (λL v=>dn K (bK sA mA G) (eR L) v) mvs Ms
 ml:Ms.length=3
 ok:∀L∈Ms,L.length<=11/\∀e∈L,LevOk fns e/\bx e.vw/\cQ e.vw
section
variable {K:Md} {C:Hp} {sA mA:Mc} {fns:List F2.Fd} {G G':Hp} {svs:List V} {ks:List Str} {mvs:List V} {Ms:List (List Lev)}
def TwoM.mono (e:aA G G') (h:TwoM K C sA mA fns G svs ks mvs Ms):TwoM K C sA mA fns G' svs ks mvs Ms :=
 #[h.b\(dm e),h.c1,h.c2,e _ _ h.s,e _ _ h.m,h.ne,Ps.imp (λ_ _ z=>z*>(dm e)) h.ss,h.sl,Ps.imp (λ_ _ z=>z*>(dm e)) h.ms,h.ml,h.ok]
def TwoM.setS {i:Nat} {kd:Str} {v:V} (h:TwoM K C sA mA fns G svs ks mvs Ms) (hv:gH K (bK sA mA G) kd v):TwoM K C sA mA fns (upd G sA (.lst (svs.set i v))) (svs.set i v) (ks.set i kd) mvs Ms :=
 #[by rw[hJ]; exact h.b,h.c1,h.c2,aG,by rw[am h.ne.symm]; exact h.m,h.ne,by rw[hJ]; exact Ps.set i h.ss hv,by rw[KD]; exact h.sl,by rw[hJ]; exact h.ms,h.ml,h.ok]
def TwoM.setM {i:Nat} {L:List Lev} {v:V} (h:TwoM K C sA mA fns G svs ks mvs Ms) (hv:dn K (bK sA mA G) (eR L) v) (hL:L.length<=11/\∀e∈L,LevOk fns e/\bx e.vw/\cQ e.vw):TwoM K C sA mA fns (upd G mA (.lst (mvs.set i v))) svs ks (mvs.set i v) (Ms.set i L) :=
 #[by rw[iH]; exact h.b,h.c1,h.c2,by rw[am h.ne]; exact h.s,aG,h.ne,by rw[iH]; exact h.ss,h.sl,by rw[iH]; exact Ps.set i h.ms hv,by rw[KD]; exact h.ml,λM hM=>by
   rcases qo hM with rfl|hM
   . exact hL
   . exact h.ok M hM]
def TwoM.at_ {b:Mc} {xs:List V} (h:TwoM K C sA mA fns G svs ks mvs Ms) (e:G b=⇑(.tup xs)):bK sA mA G b=⇑(.tup xs):=by rw[rJ (λz=>by rw[z,h.s] at e; cases e) (λz=>by rw[z,h.m] at e; cases e)];exact e
def TwoM.new {b:Mc} {o:HO} {H0:Hp} (h:TwoM K C sA mA fns G svs ks mvs Ms) (h0:TwoM K C sA mA fns H0 svs ks mvs Ms) (n:H0 b=none) (e:G b=⇑o):bK sA mA G b=⇑o:=by rw[rJ (λz=>by rw[z,h0.s] at n; cases n) (λz=>by rw[z,h0.m] at n; cases n)];exact e
def TwoM.all (h:TwoM K C sA mA fns G svs ks mvs Ms):aA C G:=h.b\mZ
end
def BC {α:Type}:∀{l:List α},l.length=2->∃a b,l=[a,b]
 | [a,b],_=>#[a,b,rfl]
end Br
namespace St
open PySem L2 Gx Rk2 Bg Fl Wk
def AlP.g {H:Hp}:∀{L:List (Mc×HO)} (i:Nat) {q:Mc} {o:HO},AlP H L->L[i]?=⇑(q,o)->H q=⇑o
 | [],i,_,_,_,e=>by simp at e
 | x::L,0,_,_,h,e=>by cases e; exact h.1
 | x::L,i+1,_,_,h,e=>AlP.g i h.2 e
def Al.g {H0 H:Hp} {L:List (Mc×HO)} (h:Al H0 H L) (i:Nat) {q:Mc} {o:HO} (e:L[i]?=⇑(q,o)):H q=⇑o:=AlP.g i h.2 e
end St
namespace L2
open PySem PySem.Spec PyProof.Rows
section
variable {X:Cx} {a b e:Expr} {ta tb te:TE} {pos:Pos}
def iT (K:Md) {i:Int} {j:Nat} {p:Pos} (ha:PE X a ta) (h:X.K=K:=by rfl):PE X (.Subscript a (.Constant (.int i) j p) pos) (gq (kH K) ta (tC (.int i))):=h ▸ dj mS ha aF (λ_ _=>rfl)
def iL (K:Md) {i:Int} {j:Nat} {p:Pos} (ha:PE X a ta) (h:X.K=K:=by rfl):PE X (.Subscript a (.Constant (.int i) j p) pos) (gq (rR K) ta (tC (.int i))):=h ▸ dj xz ha aF (λ_ _=>rfl)
def iX (K:Md) (ha:PE X a ta) (hb:PE X b tb) (hs:pM b:=by exact λ_ _=>rfl) (h:X.K=K:=by rfl):PE X (.Subscript a b pos) (gq (kH K) ta tb):=h ▸ dj mS ha hb hs
def iY (K:Md) (ha:PE X a ta) (hb:PE X b tb) (hs:pM b:=by exact λ_ _=>rfl) (h:X.K=K:=by rfl):PE X (.Subscript a b pos) (gq (rR K) ta tb):=h ▸ dj xz ha hb hs
def pS (i:Nat) {x:Str} {pos':Pos} (hN:X.N.Nodup) (he:PE X e te) (hi:X.N[i]?=⇑x:=by rfl) (hx:jO X.env.scope x:=by first|exact Or.inl rfl|exact Or.inr rfl) (hs:swapsWith e ⇑(.Name x pos') pos.line X.env=pure false:=by rfl) (hf:X.fn x=true\/X.env.scope.names.lookup x=some .local:=by first|exact .inl rfl|exact .inr rfl|assumption):PS X (.Assign [.Name x pos'] e pos) (mr te (jB i)):=m6 hN hi hx he hs hf
def fD {f:Str} (he:PE X e ta) (hb:attributeBase e f X.env (eval e X.env)=eval e X.env:=by rfl):PE X (.Attribute e f pos) (qU X.K ta f):=CA he hb
def cD {k k':Nat} {f:Mc} {fd:FuncData} {ps:List Str} {sp:Sp} {x:Str} {st:Stmt} {p:Pos} {es:List Expr} {t:TA} (D:DefOk X.K X.mg x st ps f fd) (G:FnOk X.prog X.w X.K X.mg X.base CX0 k f fd ps sp) (hr:Room k' X.A) (ha:PA X (e::es) t) (hk:k<=k':=by decide) (hg:Gl X x:=by rfl)
   (hdb:(x==("__debug__":Str))=false:=by decide) (he:starEach (e::es) X.env=(false,eval e X.env)::starEach es X.env:=by rfl) (hpl:(backTo pos (starEach es X.env)).any (·.1)=false:=by rfl) :
   PE X (.Call (.Name x p) (e::es) [] pos) (qg sp [] E0 t):=io D G (hr*>hk) ha hg hdb he hpl
end
abbrev By:TS:=λ_ _ _=>False
abbrev Gg:TT:=λ_ _ _=>False
def dZ {X:Cx} {L:List Stmt}:aY X L By:=λ_ _ _ _ _ _ h=>h.elim
def HP {X:Cx} {e:Expr}:PT X e Gg:=λ_ _ _ _ _ _ h=>h.elim
end L2
namespace St
open PySem L2
def Al.nh {H0 H G:Hp} {L:List (Mc×HO)} {q:Mc} {o:HO} (F:Al H0 H L) (k:H q=none) (e:upd H q o=G):Al H0 G ((q,o)::L):=e ▸ F.new k
end St
namespace Cb
open PySem L2 Gx Rk2 Bg Fl Wk St Br
structure Plr (ks:List Str):Prop where
 p:∀i,i<ks.length->¬ K13.isO (K13.kd ks i)=true/\¬ K13.isE (K13.kd ks i)=true
 l:∀i,i+1=ks.length->K13.kd ks i="back"
def Plr.ne {ks:List Str} (h:Plr ks) {i:Nat} (hi:i<ks.length):¬ K13.kd ks i="else"/\¬ K13.kd ks i="end":=#[λz=>(h.p i hi).2 (by rw[z]; decide +kernel),λz=>(h.p i hi).2 (by rw[z]; decide +kernel)]
def Plr.wf {ks:List Str} (h:Plr ks) (n:0<ks.length):K13.Wf ks:=by
 have s:∀i,i<=ks.length->K13.stk ks i=[]:=λi=>by
   induction i with
   | zero=>intro _; rfl
   | succ i ih =>
     intro hi;show K13.push (K13.stk ks i) i (K13.kd ks i)=[];unfold K13.push;rw[JI (h.p i ∅).1,JI (h.ne ∅).2,ih ∅]
 show#[λi hi z=>absurd z (h.p i hi).2,λi b r hi z=>absurd z (h.ne hi).1,s _ (JN _),h.l,n]
def Plr.beh {ks:List Str} (h:Plr ks) {k:Nat} (hk:k+1<ks.length):K13.Beh ks k (k+1):=.oth (h.ne hk).1 (h.ne hk).2
inductive C5 where
 | s (x:Str)
 | p (o:Option Tr)
 | t (os:List (Option Tr))
abbrev ff (K:Md) (ab:Mc) (H:Hp):C5->V->Prop
 | .s x,v=>v=.str x
 | .p o,v=>VB K ab H o v
 | .t os,v=>∃q us,v=↥q/\aD K H q us/\Ps (VB K ab H) us os
abbrev db:C5->PyData
 | .s x=>.str x
 | .p o=>oB o
 | .t os=>.tuple (os.map oB)
abbrev dE:C5->Prop
 | .s x=>PyData.strOk x=true
 | .p o=>d9 o
 | .t os=>∀o∈os,d9 o
section
variable {K:Md} {ab:Mc} {H H':Hp}
def ff.mono (e:aA H H'):∀{c:C5} {v:V},ff K ab H c v->ff K ab H' c v
 | .s _,_,h=>h
 | .p _,_,h=>VB.mono e h
 | .t _,_,h=>by let#[q,us,h1,h2,h3]:=h; show#[q,us,h1,e<*h2,Ps.imp (λ_ _ z=>z*>e) h3]
def uZ:∀{us:List V} {os:List (JK Tr)},Ps (VB K ab H) us os->bF K H (os.map oB) us
 | [],[],_=>by rw[Kb]; unfold bF; rfl
 | v::vs,c::cs,h=>by rw[Jd];unfold bF;show#[9,vE h.1,uZ h.2]
def Fu:∀{c:C5} {v:V},ff K ab H c v->au K H (db c) v
 | .s _,_,h=>by cases h; unfold db au; rfl
 | .p _,_,h=>vE h
 | .t _,_,h=>by let#[q,us,rfl,h2,h3]:=h; unfold db au; show#[q,us,rfl,h2,uZ h3]
def oG:∀{vs:List V} {cs:List C5},Ps (ff K ab H) vs cs->bF K H (cs.map db) vs
 | [],[],_=>by rw[Kb]; unfold bF; rfl
 | v::vs,c::cs,h=>by rw[Jd];unfold bF;show#[9,Fu h.1,oG h.2]
end
def tM {o:JK Tr} (h:d9 o):ax 10 (oB o):=Ec (c:=.p o) h
def Cd:∀{c:C5},dE c->ax 11 (db c)
 | .s _,h=>ax.str h
 | .p _,h=>(tM h)*>#[]
 | .t _,h=>ax.tuple λd hd=>by let#[o,ho,rfl]:=Jh.mp hd;exact tM (h o ho)
variable {cs:List C5}
def rZ (h:∀c∈cs,dE c):ax 12 (.tuple (cs.map db)):=ax.tuple λd hd=>by let#[c,hc,rfl]:=Jh.mp hd;exact Cd (h c hc)
abbrev ck:List C5->List C5->Bool
 | [],[]=>true
 | c::cs,d::ds=>PyData.eqv (db c) (db d)&&ck cs ds
 | _,_=>false
def x6:∀cs ds:List C5,PyData.eqvAll (cs.map db) (ds.map db)=ck cs ds
 | [],[]=>by rw[Kb]; unfold PyData.eqvAll; rfl
 | [],_::_=>by rw[Kb,Jd]; unfold PyData.eqvAll; rfl
 | _::_,[]=>by rw[Kb,Jd]; unfold PyData.eqvAll; rfl
 | c::cs,d::ds=>by rw[Jd,Jd]; unfold PyData.eqvAll; rw[x6 cs ds]; rfl
variable {K:Md} {ab p:Mc} {H:Hp}
def uM {Q:VK} {q:Mc}{vs us:List V} {ds:List C5}(h1:aD K H p vs) (h2:aD K H q us) (hc:Ps (ff K ab H) vs cs) (hd:Ps (ff K ab H) us ds) (oc:∀c∈cs,dE c) (od:∀c∈ds,dE c) (h:Q (.bl (!ck cs ds)) H):gk K ↥p ↥q H Q:=by show#[.tuple (cs.map db),.tuple (ds.map db),(by unfold au; show#[p,vs,rfl,h1,oG hc]),(by unfold au; show#[q,us,rfl,h2,oG hd]),(rZ oc).shaped #[],(rZ od).shaped #[],?_];rw[show PyData.eqv (.tuple (cs.map db)) (.tuple (ds.map db))=ck cs ds by unfold PyData.eqv; exact x6 cs ds];exact h
def FI {Q:VK} {q:Mc}{s s':Str} {vs us:List V} {ds:List C5} (h1:aD K H p (.str s::vs)) (h2:aD K H q us) (ha:bj K H 20 (.str s::vs)) (hd:Ps (ff K ab H) us (.s s'::ds)) (od:∀c∈(.s s'::ds:List C5),dE c) (n:¬ s=s') (h:Q (.bl true) H):gk K ↥p ↥q H Q:=by
 let#[es,le,de]:=ha;show#[.tuple es,.tuple ((.s s'::ds:List C5).map db),(by unfold au; show#[p,5,h1,de]),(by unfold au; show#[q,us,rfl,h2,oG hd]),(ax.tuple le).shaped #[],(rZ od).shaped #[],?_];have e:PyData.eqv (.tuple es) (.tuple ((.s s'::ds:List C5).map db))=false:=by
   cases es with
   | nil=>unfold bF at de; cases de
   | cons e es =>
     unfold bF at de;let#[x,xs,e1,e2,_]:=de;cases e1;have:e=.str s:=by cases e <;> (unfold au at e2; first|(cases e2; rfl)|(let#[_,_,z,_]:=e2; cases z)|cases e2)
     subst this;rw[Jd];unfold PyData.eqv PyData.eqvAll;rw[show PyData.eqv (.str s) (db (.s s'))=decide (s=s') by show PyData.eqv (.str s) (.str s')=_; unfold PyData.eqv; rfl,JP n];rfl
 rw[e];exact h
abbrev df (f:Lv):List V->JK (List (JK Tr))
 | []=>⇑[]
 | a::as=>(cz f a).bind λo=>(df f as).map λos=>o::os
def gr {f:Lv}:∀{as:List V} {os:List (JK Tr)},df f as=⇑os->as.length=os.length/\∀(i:Nat) a,as[i]?=⇑a->∃o,os[i]?=⇑o/\cz f a=⇑o
 | [],os,h=>by cases h; show#[rfl,λi a h=>by simp at h]
 | a::as,os,h=>by
   let#[o,ho,h]:=MO.mp h;let#[os',h2,rfl]:=Jg.mp h;let#[l,r]:=gr h2;show#[by simp [l],λi b hb=>?_];cases i with
   | zero=>cases hb; show#[o,rfl,ho]
   | succ i=>exact r i b hb
abbrev fC (f:Lv):RG->JK (List C5)
 | .back a=>(cz f a).map λo=>[.s "back",.p o]
 | .call _ g _ as=>(df f as).map λos=>[.s "call",.s g,.t os]
 | _=>none
abbrev gp (f:Lv) (g:Lv) (l:List (Str×V)):Lv:=l.foldl (λg pa=>dq g pa.1 ((cz f pa.2).getD none)) g
abbrev iC (ns ps:List Str) (f:Lv) (as:List V):Lv:=gp f (lk ns (List.replicate ns.length ⇑(.num 0))) (ps.zip as)
abbrev lY (as:List V) (fb:JK Int):Prop:=∃k r,as=.str k::r/\(
 (PyProof.Rows.KTD.datumAt k [("get",(3:Int)),("new",1),("wait",1)]=none/\fb=none) \/
 (k="wait"/\∃b r',r=b::r'/\(b=.non/\fb=none\/∃i,b=.int i/\fb=⇑i)))
abbrev ft (K:Md) (H:Hp) (rg:RG):Prop:=∀x g p as,rg=.call x g p as->aD K H p as/\as.length<=100
variable {H':Hp}
def ft.mono {rg:RG} (e:aA H H') (h:ft K H rg):ft K H' rg:=λx g p as z=>#[e<*(h x g p as z).1,(h x g p as z).2]
abbrev kP (A:Ak) (k:Nat) (ch:List (Str×Nat)) (fs:List Lv):Bool:=match A.ks[k]?,A.Ms[k]? with
 | some kd,⇑L=>decide (kd="wait")&&gV (bZ A.ps) L ch fs
 | _,_=>false
inductive S5 (K:W.Frag) (ab:Addr) (H:Hp) (A:Ak) (rg:RG):Bool->Prop
 | ent {k:Nat} {y g:Str} {p:Addr} {as:List V} {os:List (Option Tr)} {F:F2.Fd}:A.as=[.str "go",.int k]->k<A.Ms.length->rg=.call y g p as->F∈A.fns->F.name=g->(F2.nms F).length<=500->F.ps.length<=500->df A.e.lv as=⇑os->LvlOk A.fns ((A.L0++[A.e]).map Lev.fr++[(g,0)]) (A.fs++[iC (F2.nms F) F.ps A.e.lv as])->S5 K ab H A rg (gS A k ((A.L0++[A.e]).map Lev.fr++[(g,0)]) (A.fs++[iC (F2.nms F) F.ps A.e.lv as]))
 | lev {k to_:Nat} {a:V} {o:Option Tr} {L1:List Lev} {e1:Lev} {c:Rw} {y g:Str} {p:Addr} {as:List V}:A.as=[.str "go",.int k]->k<A.Ms.length->rg=.back a->A.L0=L1++[e1]->e1.F.rs[e1.r]?=⇑c->aD K H c.r (RG.call y g p as).items->cz A.e.lv a=⇑o->jq e1.F e1.r 0 to_->LvlOk A.fns (L1.map Lev.fr++[(e1.F.name,to_)]) (L1.map Lev.lv++[dq e1.lv y o])->S5 K ab H A rg (gS A k (L1.map Lev.fr++[(e1.F.name,to_)]) (L1.map Lev.lv++[dq e1.lv y o]))
 | gb {k:Nat} {a:V}:A.as=[.str "go",.int k]->k<A.Ms.length->rg=.back a->A.L0=[]->S5 K ab H A rg false
 | wt {bv:V} {k to_:Nat} {y g:Str} {p:Addr} {as:List V}:A.as=[.str "wait",bv,.int k]->k<A.Ms.length->rg=.call y g p as->jq A.e.F A.e.r 0 to_->LvlOk A.fns (A.at to_) (A.give y ⇑(.box (-1)))->S5 K ab H A rg (gS A k (A.at to_) (A.give y ⇑(.box (-1))))
 | ne {kd s':Str} {rest:List V} {ds:List C5}:A.as=.str kd::rest->¬ kd="wait"->¬ kd="go"->fC A.e.lv rg=⇑(.s s'::ds)->¬ kd=s'->bj K H 20 (.str kd::rest)->(∀c∈(.s s'::ds:List C5),dE c)->S5 K ab H A rg false
 | bk {v a:V} {cs ds:List C5}:A.as=[.str "back",v]->rg=.back a->A.L0=[]->fC A.e.lv rg=⇑ds->Ps (ff K ab H) [.str "back",v] cs->(∀c∈cs,dE c)->(∀c∈ds,dE c)->S5 K ab H A rg (ck cs ds)
 | ca {g' y g:Str} {p:Addr} {as:List V} {v:V} {k:Nat} {cs ds:List C5}:A.as=[.str "call",.str g',v,.int k]->rg=.call y g p as->fC A.e.lv rg=⇑ds->Ps (ff K ab H) [.str "call",.str g',v] cs->(∀c∈cs,dE c)->(∀c∈ds,dE c)->k<A.Ms.length->LvlOk A.fns ((A.L0++[A.e]).map Lev.fr) A.fs->S5 K ab H A rg (ck cs ds&&kP A k ((A.L0++[A.e]).map Lev.fr) A.fs)
def S5.mono {K:Md} {ab:Mc} {H H':Hp} {A:Ak} {rg:RG} {b:Bool} (s:aA H H') (h:S5 K ab H A rg b):S5 K ab H' A rg b:=by
 cases h with
 | ent a b c d e f g h i=>exact .ent a b c d e f g h i
 | lev a b c d e f g h i=>exact .lev a b c d e (s<*f) g h i
 | gb a b c d=>exact .gb a b c d
 | wt a b c d e=>exact .wt a b c d e
 | ne a b c d e f g=>exact .ne a b c d e (tq s f) g
 | bk a b c d e f g=>exact .bk a b c d (Ps.imp (λ_ _ z=>z*>s) e) f g
 | ca a b c d e f g h=>exact .ca a b c (Ps.imp (λ_ _ z=>z*>s) d) e f g h
def S5.to {K:Md} {ab:Mc} {H:Hp} {A:Ak} {rg:RG} {b:Bool} (S:Stp) (h:S5 K ab H A rg b):S5 K ab H (A.to S) rg b:=by
 cases h with
 | ent a b c d e f g h i=>exact .ent (A:=A.to S) a b c d e f g h i
 | lev a b c d e f g h i=>exact .lev (A:=A.to S) a b c d e f g h i
 | gb a b c d=>exact .gb (A:=A.to S) a b c d
 | wt a b c d e=>exact .wt (A:=A.to S) a b c d e
 | ne a b c d e f g=>exact .ne (A:=A.to S) a b c d e f g
 | bk a b c d e f g=>exact .bk (A:=A.to S) a b c d e f g
 | ca a b c d e f g h=>exact .ca (A:=A.to S) a b c d e f g h
def S5.mv {K:Md} {ab:Mc} {H:Hp} {A:Ak} {rg:RG} {b:Bool} (mvs:List V) (h:S5 K ab H A rg b):S5 K ab H (A.mv mvs) rg b:=by
 cases h with
 | ent a b c d e f g h i=>exact .ent (A:=A.mv mvs) a b c d e f g h i
 | lev a b c d e f g h i=>exact .lev (A:=A.mv mvs) a b c d e f g h i
 | gb a b c d=>exact .gb (A:=A.mv mvs) a b c d
 | wt a b c d e=>exact .wt (A:=A.mv mvs) a b c d e
 | ne a b c d e f g=>exact .ne (A:=A.mv mvs) a b c d e f g
 | bk a b c d e f g=>exact .bk (A:=A.mv mvs) a b c d e f g
 | ca a b c d e f g h=>exact .ca (A:=A.mv mvs) a b c d e f g h
abbrev jV (H:Hp) (n:Str) (v:V):Prop:=∃a b,v=↥a/\H a=⇑(.tup [.str n,↥b])/\H b=⇑(.tup [.str "num",.int 0])
def jV.mono {n:Str} {v:V} (e:aA H H') (h:jV H n v):jV H' n v:=by let#[a,b,h1,h2,h3]:=h; show#[a,b,h1,e _ _ h2,e _ _ h3]
abbrev gn (K:Md) (ab:Mc) (H:Hp) (kvs:List (aI×V)) (f:Lv):Prop:=∀n o,f n=⇑o->∃v,bM kvs (Sum.inr n:aI)=⇑v/\VB K ab H o v
def xt {K:Md} {ab:Mc} {H:Hp}:∀{vs:List V} {ns:List Str},Ps (jV H) vs ns->∃(as:List Mc) (kvs:List (aI×V)),vs=as.map V.ref/\Paired (λa (kv:aI×V)=>aD K H a [kV kv.1,kv.2]) as kvs/\kvs.length=ns.length/\∀(acc:List (aI×V)) n,(n∈ns\/∃v,bM acc (Sum.inr n:aI)=⇑v/\RB K ab H (.num 0) v)->∃v,bM (kvs.foldl 0x2 acc) (Sum.inr n:aI)=⇑v/\RB K ab H (.num 0) v
 | [],[],_=>#[[],[],rfl,.nil,rfl,λ_ _ h=>h.elim (λz=>by cases z) id]
 | x::xs,n::ns,h=>by
   obtain⟨⟨a,b,rfl,h1,h2⟩,h3⟩:=h;let#[as,kvs,rfl,z1,z2,z3]:=xt (K:=K) (ab:=ab) h3;show#[a::as,(Sum.inr n,↥b)::kvs,rfl,.cons (aD.of h1) z1,by rw[Jo,Jo,z2],λacc m hm=>z3 _ m ?_];by_cases e:m=n
   . subst e;exact .inr #[↥b,by show bM (ae acc (Sum.inr m) ↥b) _=_; rw[nI,JR rfl],b,rfl,h2]
   . rcases hm with hm|⟨v,hv,hr⟩
     . exact .inl ((JT.mp hm).resolve_left e)
     . exact .inr #[v,by show bM (ae acc (Sum.inr n) ↥b) _=_; rw[nI,JI (λz=>e (Sum.inr.inj z))]; exact hv,hr]
def pC:∀{ns:List Str} {vw:List (JK Tr)} {n:Str} {o:JK Tr},lk ns vw n=⇑o->n∈ns/\o∈vw
 | [],_,_,_,h=>by cases h
 | _::_,[],_,_,h=>by cases h
 | m::ns,v::vw,n,o,h=>by
   unfold lk at h;split at h
   . rename_i e
     cases h;show#[e ▸ JZ,JZ]
   . show#[JY _ (pC h).1,JY _ (pC h).2]
def F9 {ns:List Str} {kvs:List (aI×V)} (h:∀n∈ns,∃v,bM kvs (Sum.inr n:aI)=⇑v/\RB K ab H (.num 0) v):gn K ab H kvs (lk ns (List.replicate ns.length ⇑(.num 0))):=λn o ho=>by let#[h1,h2]:=pC ho;rw[(Kc.mp h2).2];exact h n h1
def uq {d:Mc} {kvs:List (aI×V)} {o:HO} (ha:∀H:Hp,aD K H ab [.str "brought"]) (hd:H d=⇑(.dK kvs)):∀{q:JK Tr} {v:V},VB K ab H q v->VB K ab (upd H d o) q v
 | none,_,h=>h
 | some _,_,h=>nj ha hd h
def gn.mono {K:Md} {ab:Mc} {H H':Hp} {kvs:List (aI×V)} {f:Lv} (e:aA H H') (h:gn K ab H kvs f):gn K ab H' kvs f:=λn o ho=>by let#[v,a,b]:=h n o ho; show#[v,a,b*>e]
variable {f:Lv}
def gn.put {d:Mc} {kvs:List (aI×V)} {n:Str} {q:JK Tr} {v:V} (ha:∀H:Hp,aD K H ab [.str "brought"]) (hd:H d=⇑(.dK kvs)) (h:gn K ab H kvs f) (hv:VB K ab H q v):gn K ab (upd H d (.dK (ae kvs (Sum.inr n:aI) v))) (ae kvs (Sum.inr n:aI) v) (dq f n q):=λm o ho=>by
 rw[nI];unfold dq at ho;split at ho
 . rename_i e
   cases ho;rw[e,JR rfl];show#[v,rfl,uq ha hd hv]
 . rename_i e
   rw[JI (λz=>e (Sum.inr.inj z))];let#[u,a,b]:=h m o ho;show#[u,a,uq ha hd b]
def DE (f g:Lv) (l:List (Str×V)) (n:Str) (a:V):gp f g (l++[(n,a)])=dq (gp f g l) n ((cz f a).getD none):=by unfold gp;rw[K0];rfl
def sK {K:Md} {ab:Mc} {H:Hp} {x:Mc} {l:List V} (ha:∀H:Hp,aD K H ab [.str "brought"]) (hx:H x=⇑(.lst l)):∀{t:Tr} {v:V},RB K ab H t v->RB K ab (ers x H) t v
 | .box _,_,h=>h.elim (λz239_=>by let#[a,b,_]:=z239_; exact .inl #[a,b,ha _]) λz240_=>by let#[a,p,b,z]:=z240_; exact .inr #[a,p,b,by rw[bW (λy=>by rw[y,hx] at z; cases z)]; exact z]
 | .num _,_,h=>by let#[p,e,z]:=h; show#[p,e,by rw[bW (λy=>by rw[y,hx] at z; cases z)]; exact z]
 | .op _ _ _,_,h=>by let#[p,a,b,e,z,z1,z2,z3,z4]:=h; show#[p,a,b,e,(by rw[bW (λy=>by rw[y,hx] at z; cases z)]; exact z),z1,z2,sK ha hx z3,sK ha hx z4]
def Ch {x:Mc} {l:List V} (ha:∀H:Hp,aD K H ab [.str "brought"]) (hx:H x=⇑(.lst l)):∀{o:JK Tr} {v:V},VB K ab H o v->VB K ab (ers x H) o v
 | none,_,h=>h
 | some _,_,h=>sK ha hx h
def sX {rg:RG} (h:fC f rg=⇑cs):cs.length<=3:=by
 cases rg with
 | back a=>let#[o,_,rfl]:=Jg.mp (show(cz f a).map _=_ from h); exact(by decide:2<=3)
 | call x g p as=>let#[o,_,rfl]:=Jg.mp (show(df f as).map _=_ from h); exact(by decide:3<=3)
 | _=>cases h
def AZ {a:V} (h:fC f (.back a)=⇑cs):cs.length=2:=by let#[o,_,rfl]:=Jg.mp (show(cz f a).map _=_ from h); rfl
def Hu {x g:Str} {as:List V} (h:fC f (.call x g p as)=⇑cs):cs.length=3:=by let#[o,_,rfl]:=Jg.mp (show(df f as).map _=_ from h); rfl
def uD {n:Str}:∀{Fs:List F2.Fd},n ∉ Fs.map (·.name)->Fs.filter (λG=>decide (G.name=n))=[]
 | [],_=>rfl
 | G::Fs,h=>by rw[Jd,JT,not_or] at h;rw[LM (by rw[K1]; exact λz=>h.1 z.symm)];exact uD h.2
def vX:∀{Fs:List F2.Fd} {F:F2.Fd},(Fs.map (·.name)).Nodup->F∈Fs->Fs.filter (λG=>decide (G.name=F.name))=[F]
 | [],_,_,h=>by cases h
 | G::Fs,F,nd,h=>by
   rw[Jd,KN] at nd;rcases JT.mp h with rfl|h
   . rw[MP (by rw[K1]),uD nd.1]
   . rw[LM (by rw[K1]; exact λz=>nd.1 (z ▸ K' h))];exact vX nd.2 h
def IJ (xs:List V) (a b:V):bu (xs++[a]++[b]) none ⇑(-2)=xs:=by unfold bu;show((xs++[a]++[b]).drop 0).take (HT.sIx (xs++[a]++[b]).length (xs++[a]++[b]).length ⇑(-2) - 0)=_;rw[LJ,Lj];have e:HT.sIx (xs++[a]++[b]).length (xs++[a]++[b]).length ⇑(-2)=((-2:Int)+((xs++[a]++[b]).length:Int)).toNat:=rfl;rw[e,show((-2:Int)+((xs++[a]++[b]).length:Int)).toNat=xs.length by rw[JF,JF]; simp; lia,Jn,List.take_left]
def F7 (xs:List V) (a b:V):bu (xs++[a]++[b]) ⇑(-2) ⇑(-1)=[a]:=by
 unfold bu;have l:(xs++[a]++[b]).length=xs.length+2:=by rw[JF,JF]; rfl
 have e1:HT.sIx (xs++[a]++[b]).length 0 ⇑(-2)=((-2:Int)+((xs++[a]++[b]).length:Int)).toNat:=rfl;have e2:HT.sIx (xs++[a]++[b]).length (xs++[a]++[b]).length ⇑(-1)=((-1:Int)+((xs++[a]++[b]).length:Int)).toNat:=rfl;rw[e1,e2,l,show((-2:Int)+((xs.length+2:Nat):Int)).toNat=xs.length by lia,show((-1:Int)+((xs.length+2:Nat):Int)).toNat - xs.length=1 by lia,Jn,List.drop_left];rfl
structure CallAt (K:W.Frag) (H:Hp) (G:F2.Fd) (r:Nat) (y g:Str) (p:Addr) (as:List V):Prop where
 c:∃c:Rw,G.rs[r]?=⇑c/\c.k="call"/\aD K H c.r [.str "call",.str y,.str g,↥p]
 p:aD K H p as
 l:as.length<=20
 y:y∈F2.nms G
 a:∀v∈as,cV (F2.nms G) v
 w:K13.Due (F2.kds G) r ⇑[r+1]
 n:r+1<G.rs.length
def CallAt.mono {G:F2.Fd} {r:Nat} {y g:Str} {as:List V} (e:aA H H') (h:CallAt K H G r y g p as):CallAt K H' G r y g p as :=
 #[by let#[c,a,k,b]:=h.c; show#[c,a,k,e<*b],e<*h.p,h.l,h.y,h.a,h.w,h.n]
structure BackAt (K:W.Frag) (H:Hp) (G:F2.Fd) (r:Nat) (a:V):Prop where
 c:∃c:Rw,G.rs[r]?=⇑c/\aD K H c.r [.str "back",a]
 a:cV (F2.nms G) a
def BackAt.mono {G:F2.Fd} {r:Nat} {a:V} (e:aA H H') (h:BackAt K H G r a):BackAt K H' G r a :=
 #[by let#[c,x,y]:=h.c; show#[c,x,e<*y],h.a]
structure Fx where
 (a b c o:F2.Fd)
 own:Nat
 (rb rc:Nat)
 (y y2:Str)
 (p p2:Addr)
 (as as2:List V)
 (xb xo:V)
structure Pg5 (K:W.Frag) (H:Hp) (pl wl:Addr) (F:Fx):Prop where
 pl:aE K H pl [↥F.a.fa,↥F.b.fa,↥F.c.fa]
 wl:aE K H wl [.str F.a.name,.str F.b.name,.str F.c.name]
 nd:[F.a.name,F.b.name,F.c.name].Nodup
 ok:∀G∈[F.a,F.b,F.c],K12.Nm G.name/\F2.FnAt K H G/\bH K H 6 ↥G.fa/\(F2.nms G).length<=20/\G.ps.length<=20
 o:F.own=0/\F.o=F.a\/F.own=1/\F.o=F.b
 ps:F.as.length=F.o.ps.length/\∃t,F2.nms F.o=F.o.ps++t
 lb:F.b.rs.length=F.rb+3
 cb:CallAt K H F.b F.rb F.y F.o.name F.p F.as
 bb:BackAt K H F.b (F.rb+2) F.xb
 lo:1<F.o.rs.length
 bo:BackAt K H F.o (F.o.rs.length - 1) F.xo
 cc:CallAt K H F.c F.rc F.y2 F.b.name F.p2 F.as2
 ix:(F.c.rs.map (·.k)).idxOf ("call":Str)=F.rc
 pr:∀G∈[F.a,F.b,F.c],Plr (F2.kds G)
def Pg5.mono {K:Md} {H H':Hp} {pl wl:Mc} {F:Fx} (e:aA H H') (h:Pg5 K H pl wl F):Pg5 K H' pl wl F :=
 #[e.seq h.pl,e.seq h.wl,h.nd,λG hG=>#[(h.ok G hG).1,F2.FnAt.mono e (h.ok G hG).2.1,(h.ok G hG).2.2.1.mono e,(h.ok G hG).2.2.2],h.o,h.ps,h.lb,h.cb*>e,h.bb*>e,h.lo,h.bo*>e,h.cc*>e,h.ix,h.pr]
abbrev bY (x:F2.Fd×Nat):Str×Nat:=(x.1.name,x.2)
abbrev dS (F:Fx) (deep:Bool):List (F2.Fd×Nat):=if deep=true then [(F.c,F.rc)] else []
abbrev dX (F:Fx) (deep:Bool) (k:Int):List (F2.Fd×Nat):=dS F deep++(if k=2 then [(F.b,F.rb+2)] else [(F.b,F.rb)]++(if k=3 then [(F.o,F.o.rs.length - 1)] else []))
inductive Ac5 (K:W.Frag) (H:Hp) (on:Nat) (k:Int) (fst:Bool):List V->Option Int->Prop
 | go:(k=1\/k=2\/k=3)->Ac5 K H on k fst [.str "go",.int (on:Int)] none
 | out {v:V}:(k=1\/k=0\/(k=2\/k=3)/\fst=false)->Tr4 H (.num 0) v->Ac5 K H on k fst [.str "out",v,.int (on:Int)] none
 | wait {bv:V} {fb:Option Int}:k=4->Bv bv fb->Ac5 K H on k fst [.str "wait",bv,.int (on:Int)] fb
 | back {t:Tr} {v:V}:(k=2\/k=3)->fst=true->Tr4 H t v->Ac5 K H on k fst [.str "back",v] none
 | call {g:Str} {q:Addr} {us:List V} {ts:List Tr}:k=0->K12.Nm g->aD K H q us->Ps (Tr4 H) us ts->ts.length<=30->Ac5 K H on k fst [.str "call",.str g,↥q,.int (on:Int)] none
def Ac5.mono {K:Md} {H H':Hp} {on:Nat} {k:Int} {fst:Bool} {as:List V} {fb:JK Int} (e:aA H H') (h:Ac5 K H on k fst as fb):Ac5 K H' on k fst as fb:=by
 cases h with
 | go a=>exact .go a
 | out a b=>exact .out a (b*>e)
 | wait a b=>exact .wait a b
 | back a b c=>exact .back a b (c*>e)
 | call a b c d f=>exact .call a b (e<*c) (Ps.imp (λ_ _ z=>z*>e) d) f
abbrev qt (ws:List Str) (k:Int) (rg:RG):Prop:=((k=0\/k=1\/k=4)/\∃y g p as,rg=.call y g p as/\K12.Nm g/\∀a∈as,cV ws a)\/((k=2\/k=3)/\∃a,rg=.back a/\cV ws a)
def xc {H:Hp}:∀{vs:List V} {os:List (JK Tr)},Ps (aO H) vs os->(∀o∈os,∀u,o=⇑u->bI u/\bh u)->(∀j,j<os.length->∃u,os[j]?=⇑⇑u)->∃ts:List Tr,ts.length=vs.length/\Ps (Tr4 H) vs ts
 | [],[],_,_,_=>#[[],rfl,trivial]
 | v::vs,o::os,h,k,a=>by let#[ts,l,hs]:=xc h.2 (λo ho=>k o (JY _ ho)) (λj hj=>a (j+1) ↑hj);let#[u,hu]:=a 0 0x6;cases hu;let#[k1,k2]:=k _ JZ u rfl;show#[u::ts,by simp [l],#[h.1,k1,k2],hs]
def DD {l:Mc} {xs ys:List V} {t:Tr} {v:V} (e:H l=⇑(.lst xs)) (h:Tr4 H t v):Tr4 (upd H l (.lst ys)) t v:=#[show aO _ ⇑t v from aO.lst e h.r,h.o,h.n]
def uk {α:Type} {R:α->V->Prop}:∀{us:List V} {ts:List α} (n:Nat),Ps R us ts->Ps R (us.take n) (ts.take n)
 | [],[],n,_=>by rw[MY,MY]; trivial
 | u::us,t::ts,0,_=>trivial
 | u::us,t::ts,n+1,h=>#[h.1,uk n h.2]
def Fg {vs:List V} {ts:List Tr} (h:Ps (Tr4 H) vs ts):∃ts':List Tr,ts'.length<=ts.length/\Ps (Tr4 H) (bu vs none ⇑(-1)) ts':=by unfold bu;rw[HT.sIx_none,LJ];show#[_,by rw[Jk]; lia,uk _ h]
def wG (t:Tr):∀o:JK Tr,PyData.eqv (oB ⇑t) (oB o)=decide (o=⇑t)
 | none=>(xF t)\(JP 0xB).symm
 | some u=>(mO t u)\(decide_eq_decide.mpr #[λz=>by rw[z],λz=>(Option.some.inj z).symm])
def vj:∀(ts:List Tr) (os:List (JK Tr)),PyData.eqvAll ((ts.map some).map oB) (os.map oB)=decide (os=ts.map some)
 | [],[]=>by show PyData.eqvAll [] []=_; unfold PyData.eqvAll; rfl
 | [],o::os=>by rw[JP 0xB]; show PyData.eqvAll [] (oB o::os.map oB)=_; unfold PyData.eqvAll; rfl
 | t::ts,[]=>by rw[JP 0xB]; show PyData.eqvAll (oB ⇑t::(ts.map some).map oB) []=_; unfold PyData.eqvAll; rfl
 | t::ts,o::os=>by rw[Jd,Jd,Jd];unfold PyData.eqvAll;rw[wG,vj ts os,K8];simp
def gJ (a b:Str) (c d:List C5):ck (.s a::c) (.s b::d)=(decide (a=b)&&ck c d):=by show(PyData.eqv (.str a) (.str b)&&ck c d)=_;rw[show PyData.eqv (.str a) (.str b)=decide (a=b) by unfold PyData.eqv; rfl]
def xY (t:Tr) (o:JK Tr) (c d:List C5):ck (.p ⇑t::c) (.p o::d)=(decide (o=⇑t)&&ck c d):=by show(PyData.eqv (oB ⇑t) (oB o)&&ck c d)=_;rw[wG]
def qK (ts:List Tr) (os:List (JK Tr)) (c d:List C5):ck (.t (ts.map some)::c) (.t os::d)=(decide (os=ts.map some)&&ck c d):=by show(PyData.eqv (.tuple ((ts.map some).map oB)) (.tuple (os.map oB))&&ck c d)=_;rw[show PyData.eqv (.tuple ((ts.map some).map oB)) (.tuple (os.map oB))=decide (os=ts.map some) by unfold PyData.eqv; exact vj ts os]
def va:ck [] []=true:=rfl
inductive Rt5 (K:W.Frag) (H:Hp) (k:Int) (fst:Bool) (ds:List C5) (as:List V):Bool->Prop
 | t4:k=4->Rt5 K H k fst ds as true
 | go {kd:Str} {r:List V}:(k=1\/(k=2\/k=3)/\fst=false)->as=.str kd::r->Rt5 K H k fst ds as (decide (kd="go"))
 | nb {kd:Str} {r:List V}:(k=2\/k=3)->fst=true->as=.str kd::r->¬ kd="back"->Rt5 K H k fst ds as false
 | bk {t:Tr} {v:V}:(k=2\/k=3)->fst=true->as=[.str "back",v]->Tr4 H t v->Rt5 K H k fst ds as (ck [.s "back",.p ⇑t] ds)
 | nc {kd:Str} {r:List V}:k=0->as=.str kd::r->¬ kd="call"->Rt5 K H k fst ds as false
 | ca {g:Str} {q:Addr} {us:List V} {ts:List Tr} {on:Nat}:k=0->as=[.str "call",.str g,↥q,.int (on:Int)]->K12.Nm g->aD K H q us->Ps (Tr4 H) us ts->ts.length<=30->Rt5 K H k fst ds as (ck [.s "call",.s g,.t (ts.map some)] ds)
def Ac5.kd {on:Nat} {k:Int} {fst:Bool} {as:List V} {fb:JK Int} (h:Ac5 K H on k fst as fb):∃kd r,as=.str kd::r:=by cases h <;> show#[9]
end Cb
namespace L2
open PySem PySem.Spec PyProof.Rows
def HD:typeLookup (.type "list_reverseiterator") "__len__"=pure none:=by rw[typeLookup_type,builtinLookup_eq_fast]; kernel_rfl
def GE:typeLookup (.type "list_reverseiterator") "__length_hint__"=pure ⇑(.builtin "list_reverseiterator.__length_hint__"):=by rw[typeLookup_type,builtinLookup_eq_fast]; kernel_rfl
def ED {prog:Program} {w:World} {A:Around} {E:Ma->Mb->Prop} {s:Mb} {r:Mc} {Q:Bool->Mb->Prop} (hT:s.TypeIs ↥r "list_reverseiterator") (h:Q false s):wpAny 0x9 A (Builtin.List.listLengthHint ↥r) Q E s:=by
 unfold Builtin.List.listLengthHint;refine JD (MR hT HD ?_);show wpAny _ A (specialOf (Value.ref r) (Str.ofString "__length_hint__") >>= _) _ _ _;refine JD (MR hT GE ?_);generalize e:("list_reverseiterator.__length_hint__":String)=i0
 wp_delta
 rw[show splitId i0=⇑("list_reverseiterator","__length_hint__") from by subst e; decide +kernel];subst e;refine JD (ME (T:="list_reverseiterator") (b:=true) hT (by rw[isSubtype_type]; kernel_rfl) ?_);refine Ln (λz=>absurd z #[]) λ_=>?_;refine Ln (λ_=>?_) λz=>absurd 0x3 z;refine Ln (λz=>absurd z 0x3) λ_=>?_;exact JQ h
section
variable {X:Cx} {pins:List (Mc×Obj)} {σ:St} {H:Hp}
def EN:∀{xs:List V} {us:List Ma},ao xs us->ao xs.reverse us.reverse
 := by
 intro xs us h
 induction h with
 | nil=>exact .nil
 | cons r rr ih=>rw[List.reverse_cons,List.reverse_cons]; exact ao.append ih (.cons r .nil)
abbrev vU (K:Md):List V->Hp->VK->Prop:=λxs H Q=>∃p ys,xs=[↥p]/\aE K H p ys/\∀l,H l=none->Q ↥l (upd H l (.lst ys.reverse))
def Az {s:Mb} {p:Mc} {Q:VK} (hc:X.calm=true) (I:Inv X pins σ H s) (h:vU X.K [↥p] H Q) :
   wpAny 0x5 X.A (call (.type "reversed") [↥p]) (λv s1=>wpAny 0x5 X.A (call (.type "list") [v]) (EP X pins σ Q) X.xe s1) X.xe s:=by
 let#[p',ys,e,hS,q]:=h;cases e;let#[its,rv,pl,hz]:=I.list hS;have hA:=I.ok.hd hc;have hlen:=rv.length;have hlt:p<s.heap.objs.size:=pl.lt;refine call_reversed_list pl.isList ?_;generalize es:({ s with heap:=s.heap.push (revObj p (((its.toArray).size:Int) - 1)) }:Mb)=s1;have k1:∀b o,s.heap.get? b=⇑o->s1.heap.get? b=⇑o:=λb o e=>by rw[<- es]; exact JJ _ e
 have I1:Inv X pins σ H s1:=by rw[<- es]; exact I.kept (t':=s.toks) λb o e=>JJ _ e
 have hit:s1.heap.IsRevIter s.heap.objs.size p (((its.toArray).size:Int) - 1):=by rw[<- es]; show#[_,Jb _ rfl,7]
 have hpl:=pl.isList.at (h':=s1.heap) λo e=>k1 _ o e;have hsz:s.heap.objs.size<s1.heap.objs.size:=by let#[_,a,_]:=hit; exact JX a
 refine callType_codes (Q₁:=λv s2=>v=↥s1.heap.objs.size/\s2={ s1 with heap:=s1.heap.push { cls:=.type "list",data:=.seq 0xA } }) F.called_list (F.typeCall_list_1 _) F.entry_list_init (code_list_new _ #[7]) λv s2 e2=>?_;let#[rfl,rfl]:=e2;have hN:(s1.heap.push { cls:=.type "list",data:=.seq 0xA }).get? s1.heap.objs.size=some { cls:=.type "list",data:=.seq 0xA }:=Jb _ rfl;show#[#[_,hN,rfl],F.args_list_init_2 _ _,?_];show wpAny _ _ (do let old <- Builtin.List.listItems ↥s1.heap.objs.size; Builtin.List.listUpdate ↥s1.heap.objs.size (λ_=>0xA); letGo old.toList.reverse; Builtin.List.listExtendWith ↥s1.heap.objs.size ↥s.heap.objs.size .none) _ _ _;refine JD ?_;unfold Builtin.List.listItems;refine JD (KW hN rfl (JQ ?_));show wpAny _ _ (updateSeq s1.heap.objs.size (λ_=>0xA) >>= λ_=>letGo (0xA:Array Ma).toList.reverse >>= λ_=>Builtin.List.listExtendWith ↥s1.heap.objs.size ↥s.heap.objs.size .none) _ _ _;refine JD (wpAny_updateSeq hN rfl (JD (MT ?_)));have hM:=LZ (Obj.mapSeq (λ_=>(0xA:Array Ma))) hN rfl;have k2:∀b o,s1.heap.get? b=⇑o->((s1.heap.push { cls:=.type "list",data:=.seq 0xA }).update s1.heap.objs.size (Obj.mapSeq λ_=>(0xA:Array Ma))).get? b=⇑o:=λb o e=>(LS _ _ (Ka (JX e)))\(JJ _ e);show wpAny _ _ _ _ _ { s1 with heap:=(s1.heap.push { cls:=.type "list",data:=.seq 0xA }).update s1.heap.objs.size (Obj.mapSeq λ_=>(0xA:Array Ma)) };generalize (s1.heap.push { cls:=.type "list",data:=.seq 0xA }).update s1.heap.objs.size (Obj.mapSeq λ_=>(0xA:Array Ma))=h2 at hM k2 ⊢;have hi2:=hit.at (h':=h2) λo e=>k2 _ o e;have hp2:=hpl.at (h':=h2) λo e=>k2 _ o e;have W:=Walks.listRev (prog:=X.prog) (w:=X.w) (A:=X.A.in1.in1) hA s.heap.objs.size p (Js hlt) its.toArray;have hSf:s1.heap.objs.size ∉ [s.heap.objs.size,p]:=by simp only[JT,J',or_false,not_or]; show#[Ka hsz,Ka (Le hlt hsz)]
 unfold Builtin.List.listExtendWith;refine JD (Kz (T:="list_reverseiterator") (s:={ s1 with heap:=h2 }) hi2.typeIs ?_);have z1:Builtin.List.listSameRef ↥s1.heap.objs.size ↥s.heap.objs.size=false:=by unfold Builtin.List.listSameRef; simp; exact Ka hsz
 have z2:(Value.type "list_reverseiterator"==Value.type "list")=false:=by decide
 have z3:(Value.type "list_reverseiterator"==Value.type "tuple")=false:=by decide
 simp only[z1,z2,z3,M0,Lx,if_false];refine JD (wpAny_pyIter_revIter (s:={ s1 with heap:=h2 }) hi2 ?_);refine JD (K6 (ED (s:={ s1 with heap:=h2 }) hi2.typeIs ?_));refine Ln (λz=>absurd z #[]) λ_=>?_;refine JQ #[plainId_quiet F.plain_extend_loop _,codeAny_extend_loopS W.toS (by simp; lia) _ hSf _ _ 0 _ 0xA _ rfl (Jm _) #[Jm _,by simpa using hi2,hp2] hM (ItemsOf.nil _) λs' acc' c' hm hS' hacc=>?_];rw[Moved.eq_with hm];have fr:H s1.heap.objs.size=none:=I.hok.fresh (LC hsz);have kk:∀b o,s.heap.get? b=⇑o->s'.heap.get? b=⇑o:=λb o e=>hm.heap b o (λz=>by
   have l:=JX e;rcases JT.mp z with z|z
   . rw[z] at l; exact K2 _ (Le l hsz)
   . rw[JO.mp z] at l; exact K2 _ l) (k2 b o (k1 b o e))
 have ev:acc'.toList=its.reverse:=L6 λi=>by
   have l1:acc'.size=its.length:=by rw[hacc.1]; simp
   cases e:acc'[i]? with
   | none =>
     rw[La,e];exact(Jy.mpr (by rw[List.length_reverse,<- l1]; exact Array.getElem?_eq_none_iff.mp e)).symm
   | some v =>
     have h1:=hacc.2 i v e;have l2:i<its.length:=by rw[<- l1]; exact(Array.getElem?_eq_some_iff.mp e).1
     rw[La,e,List.getElem?_reverse l2];simpa using h1.symm
 have J:Inv X pins σ (upd H s1.heap.objs.size (.lst ys.reverse)) { s with heap:=s'.heap,toks:=s'.toks }:=I.laid kk (LC hsz) #[by rw[List.length_reverse]; exact hz,acc'.toList,c',by rw[ev]; exact EN rv,by simpa using hS'];have e5:({ ({ s1 with heap:=h2 }:Mb) with heap:=s'.heap,toks:=s'.toks }:Mb)={ s with heap:=s'.heap,toks:=s'.toks }:=by rw[<- es]
 rw[e5];show#[rfl,↥s1.heap.objs.size,_,J,rfl,q _ fr]
def DH:bootBuiltins "reversed"=⇑(.type "reversed"):=by decide +kernel
def Di {a:Expr} {ta:TA} {p pos p' pos':Pos} (hc:X.calm=true) (hg:Gl X "list") (hm:X.mg "list"=none) (hg2:Gl X "reversed") (hm2:X.mg "reversed"=none) (ha:PA X [a] ta)
   (hs:starEach [a] X.env=[(false,eval a X.env)]:=by rfl)
   (he:starEach [.Call (.Name "reversed" p') [a] [] pos'] X.env=[(false,eval (.Call (.Name "reversed" p') [a] [] pos') X.env)]:=by rfl) :
   PE X (.Call (.Name "list" p) [.Call (.Name "reversed" p') [a] [] pos'] [] pos) (jg (vU X.K) ta):=by
 intro pins s σ H Q I h;refine Kq (fY I hg hm iM ?_);refine Jv ?_ he rfl;rw[he];show wpAny _ _ (spliced [(false,eval (.Call (.Name "reversed" p') [a] [] pos') X.env)]) _ _ s;refine Calls.spliced_cons (Call_ (fY I hg2 hm2 DH (Jv (al (ha pos' pins s σ H _ I h) λus s1 z241_=>?_) hs rfl)));let#[vs,H1,I1,r1,q1]:=z241_;let#[l1,ys,e,q]:=id q1;subst e;cases r1 with
 | cons r rr =>
   cases rr;cases r;exact al (Az hc I1 q1) λv s2 q2=>Calls.spliced_nil q2
end
end L2
namespace Cb
open PySem L2 Gx Rk2 Bg Fl Wk St Br K41
def qz (xs:List V) (k:Nat):bu xs ⇑(k:Int) none=xs.drop k:=by
 unfold bu HT.sIx;simp only;rw[JI ∅];by_cases h:k<=xs.length
 . rw[show min (k:Int).toNat xs.length=k by lia];rw[LV (by rw[KI]; lia)]
 . rw[show min (k:Int).toNat xs.length=xs.length by lia];rw[List.drop_eq_nil_of_le (JN _),List.drop_eq_nil_of_le ∅];simp
abbrev iI (k:Str):Prop:=k="copy"\/k="call"\/k="out"
def rC {k:Str} (h:iI k):¬ K13.isO k=true/\¬ K13.isE k=true/\¬ k="end"/\¬ k="back"/\¬ k="else":=by rcases h with rfl|rfl|rfl <;> decide +kernel
def qw {ks:List Str} {i:Nat} {k:Str} (h:ks[i]?=⇑k):K13.kd ks i=k:=by unfold K13.kd;rw[KU,h];rfl
def uo {pre:List Str} (h:∀k∈pre,iI k):Plr (pre++[("back":Str)]):=by
 have l:(pre++[("back":Str)]).length=pre.length+1:=by rw[JF]; rfl
 show#[λi hi=>?_,λi hi=>?_]
 . by_cases h1:i<pre.length
   . rw[qw (by rw[KM h1]; exact JU h1)];have p:=rC (h _ (KL h1));show#[p.1,p.2.1]
   . rw[show i=pre.length by lia,K13.kd_last];decide +kernel
 . rw[show i=pre.length by lia,K13.kd_last]
def Ge {pre:List Str} {r:Nat} (h:∀k∈pre,iI k) (hr:r<pre.length):K13.Due (pre++[("back":Str)]) r ⇑[r+1]:=by
 have e:K13.kd (pre++[("back":Str)]) r=pre[r]:=qw (by rw[KM hr]; exact JU hr);have p:=rC (h _ (KL hr));have q:¬ K13.kd (pre++[("back":Str)]) (r+1)="else"/\¬ K13.kd (pre++[("back":Str)]) (r+1)="end":=by
   by_cases h1:r+1<pre.length
   . rw[qw (by rw[KM h1]; exact JU h1)];have p:=rC (h _ (KL h1));show#[p.2.2.2.2,p.2.2.1]
   . have e2:r+1=pre.length:=by lia
     rw[e2,K13.kd_last];decide +kernel
 exact .one (by rw[e]; exact p.2.1) (by rw[e]; exact p.2.2.2.1) (by rw[e]; exact p.1) (.oth q.1 q.2)
structure Fn5 (K:W.Frag) (H:Hp) (ws:List Str) (pre:List RR) (bk:RR) (G:F2.Fd):Prop where
 nm:K12.Nm G.name
 fn:F2.FnAt K H G
 hd:bH K H 6 ↥G.fa
 ns:F2.nms G=ws
 l:ws.length<=20
 pl:G.ps.length<=20
 rs:G.rs=(pre++[bk]).map (·.w)
 kd:∀x∈pre,iI x.w.k
 bk:bk.w.k="back"
section
variable {K:Md} {H:Hp} {ws:List Str} {pre:List RR} {bk:RR} {G:F2.Fd}
def pw {nk:Str} {fa tr qC:Mc} {b:Bool} {ps:List Str} (pre:List RR) (bk:RR) (h1:aD K H fa [.str nk,.bl b,↥qC,↥tr]) (h2:aD K H tr ((pre++[bk]).map λx=>V.ref x.w.r)) (h3:∀x∈pre++[bk],gB K H ws x) (hk:∀x∈pre,iI x.w.k) (hb:bk.w.k="back") (h4:aD K H qC (ps.map V.str)) (hn:K12.Nm nk) (hw:∀w∈ws,K12.Nm w) (hp:∀p∈ps,p∈ws) (l:ws.length<=20) (pl:ps.length<=20) (l2:pre.length<=90) (ns:K12.onceL (K12.allOf ps ((pre++[bk]).map (·.d)))=ws) :
   Fn5 K H ws pre bk #[nk,.bl b,fa,qC,tr,ps,(pre++[bk]).map (·.w),(pre++[bk]).map (·.d)]:=by
 show#[hn,Dt (K:=K) (pre++[bk]) h1 h2 (λx hx=>(h3 x hx).1.1) h4 (λs hs=>hw s (hp s hs)) ∅ (by rw[JF]; show pre.length+1<=100; lia) ?_,bH.tup (n:=5) h1 (.cons (.str hn.2) (.cons .bl (.cons (bH.tup (n:=4) h4 (bj.of λv hv=>?_)) (.cons (bH.tup (n:=4) h2 (bj.of λv hv=>?_)) .nil)))),ns,l,pl,rfl,hk,hb]
 . rw[JL,show [bk].map (λx:RR=>x.w.k)=[("back":Str)] by rw[<- hb]; rfl];exact(uo λk h=>by let#[x,hx,rfl]:=Jh.mp h; exact hk x hx).wf 0x6
 . let#[s,hs,rfl]:=Jh.mp hv;exact .str (hw s (hp s hs)).2
 . let#[x,hx,rfl]:=Jh.mp hv;exact((h3 x hx).1.2).up #[]
def Fn5.kds (h:Fn5 K H ws pre bk G):F2.kds G=pre.map (λx=>x.w.k)++[("back":Str)]:=by unfold F2.kds;rw[h.rs,K7,JL,<- h.bk];rfl
def Fn5.len (h:Fn5 K H ws pre bk G):G.rs.length=pre.length+1:=by rw[h.rs,JE,JF]; rfl
def Fn5.call {r:Nat} {c p:Mc} {y g:Str} {as:List V} (h:Fn5 K H ws pre bk G) (e:pre[r]?=⇑((RG.call y g p as).rr c)) (hc:aD K H c [.str "call",.str y,.str g,↥p]) (hp:aD K H p as) (hl:as.length<=20) (hy:y∈ws) (ha:∀v∈as,cV ws v):CallAt K H G r y g p as:=by
 have lr:=(JH.mp e).1;show#[#[((RG.call y g p as).rr c).w,?_,rfl,hc],hp,hl,by rw[h.ns]; exact hy,by rw[h.ns]; exact ha,?_,by rw[h.len]; lia]
 . rw[h.rs,JS,KM lr,e];rfl
 . rw[h.kds];exact Ge (λk hk=>by let#[x,hx,rfl]:=Jh.mp hk; exact h.kd x hx) (by rw[JE]; exact lr)
def Fn5.back {b:Mc} {a:V} (h:Fn5 K H ws pre ((RG.back a).rr b) G) (hb:aD K H b [.str "back",a]) (ha:cV ws a):BackAt K H G (G.rs.length - 1) a:=by show#[#[((RG.back a).rr b).w,?_,hb],by rw[h.ns]; exact ha];rw[h.len,h.rs,JS,Nat.add_sub_cancel,Jf (JN _),KG];rfl
end
def Bw {ps ns:List Str} {d1 d2:List K12.RowD} (nd:(ps++ns).Nodup) (h1:d1.flatMap K12.rowStrs=ns) (h2:∀d∈d2,∀s∈K12.rowStrs d,s∈ps++ns):K12.onceL (K12.allOf ps (d1++d2))=ps++ns:=by unfold K12.onceL K12.allOf;rw[List.flatMap_append,h1,<- Jn,K0,qI (acc:=[]) ↑nd,Ld];refine sC λs hs=>?_;let#[d,hd,hs]:=List.mem_flatMap.mp hs;exact h2 d hd s hs
abbrev cps (l:List (Mc×Str)):List RR:=l.map λx=>(RG.copy x.2 (.int 0)).rr x.1
def xy:∀l:List (Mc×Str),((cps l).map (·.d)).flatMap K12.rowStrs=l.map (·.2)
 | []=>rfl
 | x::l=>by show K12.rowStrs ((RG.copy x.2 (.int 0)).rr x.1).d++((cps l).map (·.d)).flatMap K12.rowStrs=x.2::l.map (·.2);rw[xy l];rfl
def wj {K:Md} {G:Hp}:∀{vs:List V} {ns:List Str},vs.length=ns.length->(∀(i:Nat) v,vs[i]?=⇑v->∃q n,ns[i]?=⇑n/\v=↥q/\aD K G q [.str "copy",.str n,.int 0])->∃la:List (Mc×Str),vs=la.map (λx=>V.ref x.1)/\la.map (·.2)=ns/\∀x∈la,aD K G x.1 [.str "copy",.str x.2,.int 0]
 | [],[],_,_=>#[[],7,λx h=>by cases h]
 | [],_::_,h,_=>by cases h
 | _::_,[],h,_=>by cases h
 | v::vs,n::ns,l,h=>by
   let#[q,n',e1,rfl,e3]:=h 0 v rfl;cases e1;let#[la,rfl,rfl,a]:=wj (vs:=vs) (ns:=ns) ↑l λi v hv=>h (i+1) v ↑hv;show#[(q,n)::la,7,λx hx=>by
     rcases JT.mp hx with rfl|hx
     . exact e3
     . exact a x hx]
def J4 (la:List (Mc×Str)):(cps la).map (λx=>V.ref x.w.r)=la.map λx=>V.ref x.1:=by unfold cps; rw[K7]; rfl
structure Ok5 (K:W.Frag) (H:Hp) (ws:List Str) (nk:Str) (G:F2.Fd):Prop where
 nm:K12.Nm G.name
 fn:F2.FnAt K H G
 hd:bH K H 6 ↥G.fa
 ns:F2.nms G=ws
 l:ws.length<=20
 pl:G.ps.length<=20
 rs:1<G.rs.length
 e:G.name=nk
 pr:Plr (F2.kds G)
def Ok5.mono {K:Md} {H H':Hp} {ws:List Str} {nk:Str} {G:F2.Fd} (h:Ok5 K H ws nk G) (e:aA H H'):Ok5 K H' ws nk G :=
 #[h.nm,F2.FnAt.mono e h.fn,h.hd*>e,h.ns,h.l,h.pl,h.rs,h.e,h.pr]
variable {H:Hp}
def Fn5.ok {K:Md} {ws:List Str} {pre:List RR} {bk:RR} {G:F2.Fd} (h:Fn5 K H ws pre bk G) (n:0<pre.length):Ok5 K H ws G.name G:=#[h.nm,h.fn,h.hd,h.ns,h.l,h.pl,by rw[h.len]; lia,rfl,by rw[h.kds]; exact uo λk hk=>by let#[x,hx,rfl]:=Jh.mp hk; exact h.kd x hx]
section
variable {K:Md} {H:Hp} {nk:Str} {fa tr qC bk:Mc} {b:Bool}
def fa5 {wa:List Str} {m:Nat} {la:List (Mc×Str)} {o1:Mc} {xa:V} (h1:aD K H fa [.str nk,.bl b,↥qC,↥tr]) (h2:aD K H tr (la.map (λx=>V.ref x.1)++[↥o1,↥bk])) (h3:aD K H qC ((wa.take m).map V.str)) (hla:la.map (·.2)=wa.drop m) (hca:∀x∈la,aD K H x.1 [.str "copy",.str x.2,.int 0]) (ho:aD K H o1 [.str "out",.int 1]) (hb:aD K H bk [.str "back",xa]) (hx:cV wa xa) (hn:K12.Nm nk) (nd:wa.Nodup) (hw:∀w∈wa,K12.Nm w) (l:wa.length<=20) :
   ∃G:F2.Fd,G.fa=fa/\G.ps=wa.take m/\Ok5 K H wa nk G/\BackAt K H G (G.rs.length - 1) xa:=by
 have td:wa.take m++wa.drop m=wa:=Lc ..;have ll:la.length<=20:=by have:=JW List.length hla; rw[JE,KI] at this; lia
 have ra:∀x∈cps la++[(RG.out (.int 1)).rr o1]++[(RG.back xa).rr bk],gB K H wa x:=λx hx'=>by
   rcases JV.mp hx' with h|h
   . rcases JV.mp h with h|h
     . let#[y,hy,rfl]:=Jh.mp h;exact xf hw (hca y hy) (Lm (hla ▸ K' hy)) (.inl #[(0),rfl])
     . cases JO.mp h;exact je hw (.out (.int 1)) (.inl rfl) ho (.inl #[(1),rfl])
   . cases JO.mp h;exact je hw (.back xa) (.inr (.inl rfl)) hb hx.i
 have F:=pw (K:=K) (ps:=wa.take m) (cps la++[(RG.out (.int 1)).rr o1]) ((RG.back xa).rr bk) h1 (by rw[JL,JL,J4,Jn]; exact h2) ra (λx hx'=>by
   rcases JV.mp hx' with h|h
   . let#[y,hy,rfl]:=Jh.mp h;exact .inl rfl
   . cases JO.mp h;exact .inr (.inr rfl)) rfl h3 hn hw (λp hp=>Ll hp) l (by rw[Jk]; lia) (by unfold cps; rw[JF,JE]; show la.length+1<=90; lia) (by
   rw[Jn,JL,Bw (ns:=wa.drop m) (by rw[td]; exact nd) (by rw[xy,hla]) λd hd=>?_,td];rw[td];let#[x,hx',rfl]:=Jh.mp hd;exact(ra x (by rw[Jn]; exact Jq _ hx')).2)
 show#[11,F.ok 0x6,F.back hb hx]
def x4 {α:Type} (n:Nat) (a b:α) (t:List α):(List.replicate n a++b::t)[n]?=⇑b:=by rw[Jf (by rw[Jr]; exact JN _),Jr,KG];rfl
def fb5 {wb:List Str} {n:Nat} {pr nx:RR} {c p:Mc} {y g:Str} {as:List V} {xb:V} (h1:aD K H fa [.str nk,.bl b,↥qC,↥tr]) (h2:aD K H tr (List.replicate n (V.ref pr.w.r)++[↥c,↥nx.w.r]++[↥bk])) (h3:aD K H qC (wb.map V.str)) (hp:gB K H wb pr) (hpk:iI pr.w.k) (hx:gB K H wb nx) (hxk:iI nx.w.k) (hc:aD K H c [.str "call",.str y,.str g,↥p]) (hq:aD K H p as) (hl:as.length<=10) (hy:y∈wb) (hg:K12.Nm g) (ha:∀v∈as,cV wb v) (hb:aD K H bk [.str "back",xb]) (hxb:cV wb xb) (hn:K12.Nm nk) (nd:wb.Nodup) (hw:∀w∈wb,K12.Nm w) (l:wb.length<=20) (n3:n<3) :
   ∃G:F2.Fd,G.fa=fa/\G.ps=wb/\Ok5 K H wb nk G/\BackAt K H G (n+2) xb/\G.rs.length=n+3/\CallAt K H G n y g p as:=by
 have lp:(List.replicate n pr++[(RG.call y g p as).rr c,nx]).length=n+2:=by rw[JF,Jr]; rfl
 have ra:∀x∈List.replicate n pr++[(RG.call y g p as).rr c,nx]++[(RG.back xb).rr bk],gB K H wb x:=λx hx'=>by
   rcases JV.mp hx' with h|h
   . rcases JV.mp h with h|h
     . rw[(Kc.mp h).2]; exact hp
     . rcases JT.mp h with rfl|h
       . exact ql hw hc hq hy hg (λv hv=>(ha v hv).i) hl
       . cases JO.mp h; exact hx
   . cases JO.mp h;exact je hw (.back xb) (.inr (.inl rfl)) hb hxb.i
 have F:=pw (K:=K) (ps:=wb) (List.replicate n pr++[(RG.call y g p as).rr c,nx]) ((RG.back xb).rr bk) h1 (by rw[JL,vJ]; exact h2) ra (λx hx'=>by
   rcases JV.mp hx' with h|h
   . rw[(Kc.mp h).2]; exact hpk
   . rcases JT.mp h with rfl|h
     . exact .inr (.inl rfl)
     . cases JO.mp h; exact hxk) rfl h3 hn hw (λp hp=>hp) l l ∅ (xp nd λd hd=>by
   let#[x,hx',rfl]:=Jh.mp hd;exact(ra x hx').2)
 have B:=F.back hb hxb;have e:=F.len;rw[e,lp] at B;show#[11,F.ok ∅,B,by rw[e,lp],F.call (x4 ..) hc hq ∅ hy ha]
def fc5 {o0 o1:Str} {n:Nat} {cp c p o:Mc} {y g:Str} {as:List V} (h1:aD K H fa [.str nk,.bl b,↥qC,↥tr]) (h2:aD K H tr (List.replicate n (V.ref cp)++[↥c]++[↥o,↥bk])) (h3:aD K H qC ([o0,o1].map V.str)) (hp:aD K H cp [.str "copy",.str o0,.int 1]) (hc:aD K H c [.str "call",.str y,.str g,↥p]) (hq:aD K H p as) (hl:as.length<=10) (hy:y∈[o0,o1]) (hg:K12.Nm g) (ha:∀v∈as,cV [o0,o1] v) (ho:aD K H o [.str "out",.int 1]) (hb:aD K H bk [.str "back",.int 0]) (hn:K12.Nm nk) (nd:[o0,o1].Nodup) (hw:∀w∈[o0,o1],K12.Nm w) (n2:n<2) :
   ∃G:F2.Fd,G.fa=fa/\Ok5 K H [o0,o1] nk G/\CallAt K H G n y g p as/\(G.rs.map (·.k)).idxOf ("call":Str)=n:=by
 have ra:∀x∈List.replicate n ((RG.copy o0 (.int 1)).rr cp)++[(RG.call y g p as).rr c,(RG.out (.int 1)).rr o]++[(RG.back (.int 0)).rr bk],gB K H [o0,o1] x:=λx hx'=>by
   rcases JV.mp hx' with h|h
   . rcases JV.mp h with h|h
     . rw[(Kc.mp h).2]; exact xf hw hp 0x6 (.inl #[(1),rfl])
     . rcases JT.mp h with rfl|h
       . exact ql hw hc hq hy hg (λv hv=>(ha v hv).i) hl
       . cases JO.mp h; exact je hw (.out (.int 1)) (.inl rfl) ho (.inl #[(1),rfl])
   . cases JO.mp h;exact je hw (.back (.int 0)) (.inr (.inl rfl)) hb (.inl #[(0),rfl])
 have F:=pw (K:=K) (ps:=[o0,o1]) (List.replicate n ((RG.copy o0 (.int 1)).rr cp)++[(RG.call y g p as).rr c,(RG.out (.int 1)).rr o]) ((RG.back (.int 0)).rr bk) h1 (by rw[JL,vJ,Jn]; rw[Jn] at h2; exact h2) ra (λx hx'=>by
   rcases JV.mp hx' with h|h
   . rw[(Kc.mp h).2]; exact .inl rfl
   . rcases JT.mp h with rfl|h
     . exact .inr (.inl rfl)
     . cases JO.mp h; exact .inr (.inr rfl)) rfl h3 hn hw (λp hp=>hp) (show 2<=20 by decide) (show 2<=20 by decide) (by rw[JF,Jr]; show n+2<=90; lia) (xp nd λd hd=>by
   let#[x,hx',rfl]:=Jh.mp hd;exact(ra x hx').2)
 show#[5,F.ok 0x6,F.call (x4 ..) hc hq ∅ hy ha,?_];obtain rfl|rfl:n=0\/n=1:=by lia
 . show(("call":Str)::_).idxOf ("call":Str)=0;exact KC
 . show(("copy":Str)::("call":Str)::_).idxOf ("call":Str)=1;rw[iJ _ 0x3,KC]
end
def xq {z a:Mc} {xs l:List V} (hz:H z=⇑(.lst l)) (h:H a=⇑(.tup xs)):ers z H a=⇑(.tup xs):=by rw[bW (λe=>by rw[e,hz] at h; cases h)]; exact h
def iZ {K:Md} {z a:Mc} {xs l:List V} (hz:H z=⇑(.lst l)) (h:aD K H a xs):aD K (ers z H) a xs:=by
 have key:∀o:HO,H a=⇑o->(∀ys,o≠.lst ys)->a≠z:=λo ho hn e=>by subst e;rw[ho] at hz;exact hn l (Option.some.inj hz)
 rcases h with(h|⟨o,h⟩)|h
 . exact .inl (.inl (by rw[bW (key _ h (by intro ys z; cases z))]; exact h))
 . exact .inl (.inr #[o,by rw[bW (key _ h (by intro ys z; cases z))]; exact h])
 . exact .inr h
def FC:∀{ws:List Str},3<=ws.length->∃x y z,ay (ws.map V.str) 0=⇑(.str x)/\ay (ws.map V.str) 1=⇑(.str y)/\ay (ws.map V.str) 2=⇑(.str z)/\x∈ws/\y∈ws/\z∈ws
 | x::y::z::l,_=>#[x,y,z,Gx.at0,bf (j:=1) rfl,bf (j:=2) rfl,by simp,by simp,by simp]
abbrev isT:HO->Bool
 | .tup _=>true
 | _=>false
def AlP.kt {H:Hp} {r:Mc} {xs:List V} {o:HO} (e:H r=⇑(.lst xs)):∀{L:List (Mc×HO)},(L.all λx=>isT x.2)=true->St.AlP H L->St.AlP (upd H r o) L
 | [],_,_=>trivial
 | x::L,k,h=>by
   rw[MW,Jl] at k;show#[?_,AlP.kt e k.2 h.2];have n:x.1≠r:=λz=>by have h1:=h.1;rw[z,e] at h1;have k1:=k.1;rw[<- Option.some.inj h1] at k1;cases k1
   rw[am n];exact h.1
structure Bs5 (K:W.Frag) (H:Hp) (cl wl n1 n2 n3:Addr) (cs:List Int) (w0 w1 w2 o0 o1:Str) (wa wb:List Str) (m:Nat) (Ga:F2.Fd) (xa:V):Prop where
 cl:aE K H cl (cs.map V.int)
 wl:aE K H wl [.str w0,.str w1,.str w2]
 n1:aE K H n1 (wa.map V.str)
 n2:aE K H n2 (wb.map V.str)
 n3:aE K H n3 ([o0,o1].map V.str)
 ok:Ok5 K H wa w0 Ga
 ps:Ga.ps=wa.take m
 bk:BackAt K H Ga (Ga.rs.length - 1) xa
def Bs5.mono {K:Md} {H H':Hp} {cl wl n1 n2 n3:Mc} {cs:List Int} {w0 w1 w2 o0 o1:Str} {wa wb:List Str} {m:Nat} {Ga:F2.Fd} {xa:V} (h:Bs5 K H cl wl n1 n2 n3 cs w0 w1 w2 o0 o1 wa wb m Ga xa) (e:aA H H'):Bs5 K H' cl wl n1 n2 n3 cs w0 w1 w2 o0 o1 wa wb m Ga xa :=
 #[e.seq h.cl,e.seq h.wl,e.seq h.n1,e.seq h.n2,e.seq h.n3,h.ok*>e,h.ps,h.bk*>e]
structure Bt5 (K:W.Frag) (H:Hp) (wb:List Str) (w1 g:Str) (n:Nat) (y:Str) (p:Addr) (as:List V) (xb:V) (Gb:F2.Fd):Prop where
 ok:Ok5 K H wb w1 Gb
 ps:Gb.ps=wb
 bk:BackAt K H Gb (n+2) xb
 l:Gb.rs.length=n+3
 c:CallAt K H Gb n y g p as
def Bt5.mono {K:Md} {H H':Hp} {wb:List Str} {w1 g:Str} {n:Nat} {y:Str} {p:Mc} {as:List V} {xb:V} {Gb:F2.Fd} (h:Bt5 K H wb w1 g n y p as xb Gb) (e:aA H H'):Bt5 K H' wb w1 g n y p as xb Gb:=#[h.ok*>e,h.ps,h.bk*>e,h.l,h.c*>e]
structure NmA (K:W.Frag) (H:Hp) (nl n1 n2 n3:Addr) (F:Fx):Prop where
 l:aE K H nl [↥n1,↥n2,↥n3]
 a:aE K H n1 ((F2.nms F.a).map V.str)
 b:aE K H n2 ((F2.nms F.b).map V.str)
 c:aE K H n3 ((F2.nms F.c).map V.str)
def NmA.mono {K:Md} {H':Hp}{nl n1 n2 n3:Mc} {F:Fx} (e:aA H H') (h:NmA K H nl n1 n2 n3 F):NmA K H' nl n1 n2 n3 F:=#[e.seq h.l,e.seq h.a,e.seq h.b,e.seq h.c]
end Cb
namespace Cb
open PySem L2 Gx Rk2 Bg Fl Wk St Br
structure Cpy (H G:Hp) (p:Addr) (as:List Addr) (Vs:List (List (Option Tr))):Prop where
 s:aA H G
 pe:G p=⇑(.lst (as.map V.ref))
 hp:H p=none
 nd:as.Nodup
 f:∀a∈as,H a=none/\a≠p
 v:Ps (dA G) (as.map V.ref) Vs
variable {v:V}
section
variable {H G G':Hp} {p l:Mc} {as:List Mc} {Vs:List (List (JK Tr))} {us:List V} {vw:List (JK Tr)}
def Cpy.mono (h:Cpy H G p as Vs) (e:aA G G'):Cpy H G' p as Vs:=#[h.s\e,e _ _ h.pe,h.hp,h.nd,h.f,Ps.imp (λ_ _ z=>z*>e) h.v]
def ki {o:HO} (e:G l=⇑(.lst us)):∀{as:List Mc} {Vs:List (List (JK Tr))},l ∉ as->Ps (dA G) (as.map V.ref) Vs->Ps (dA (upd G l o)) (as.map V.ref) Vs
 | [],[],_,_=>trivial
 | a::as,v::Vs,n,h=>by rw[JT,not_or] at n;obtain⟨⟨a',xs,e1,e2,e3⟩,h2⟩:=h;cases e1;show#[#[a,xs,rfl,by rw[am (λz=>n.1 z.symm)]; exact e2,Ps.imp (λ_ _ z=>aO.lst e z) e3],ki e n.2 h2]
def rH {α:Type} {R:α->V->Prop} {us:List V} {ts:List α} {u:V} {t:α} (h:Ps R us ts) (h':R t u):Ps R (us++[u]) (ts++[t]):=Ps.app h #[h',trivial]
def Cpy.push (h:Cpy H G p as Vs) (n:l ∉ as) (hl:H l=none) (hp:l≠p) (e:G l=⇑(.lst us)) (hu:Ps (aO G) us vw):Cpy H (upd G p (.lst (as.map V.ref++[V.ref l]))) p (as++[l]) (Vs++[vw]):=by
 have em:(as++[l]).map V.ref=as.map V.ref++[V.ref l]:=JL;show#[h.s.upd h.hp,by rw[em]; exact aG,h.hp,?_,λa ha=>?_,?_]
 . rw[Ky];show#[h.nd,by simp,λa ha b hb=>?_];rw[JO.mp hb];exact λz=>n (z ▸ ha)
 . rcases JV.mp ha with ha|ha
   . exact h.f a ha
   . rw[JO.mp ha]; show#[hl,hp]
 . rw[em];exact rH (ki h.pe (λz=>(h.f p z).2 rfl) h.v) #[l,us,rfl,by rw[am hp]; exact e,Ps.imp (λ_ _ z=>aO.lst h.pe z) hu]
def Cpy.pop (h:Cpy H G p (as++[l]) (Vs++[vw])):Cpy H (upd G p (.lst (as.map V.ref))) p as Vs:=by have hv:=h.v;rw[JL] at hv;let#[ws,u,e1,hv,_]:=Ps.split1 hv;have e1:as.map V.ref=ws:=(List.append_inj' e1 rfl).1;subst e1;show#[h.s.upd h.hp,aG,h.hp,(Ky.mp h.nd).1,λa ha=>h.f a (KB _ ha),ki h.pe (λz=>(h.f p (KB _ z)).2 rfl) hv]
def Cpy.last (h:Cpy H G p (as++[l]) (Vs++[vw])):∃us,G l=⇑(.lst us)/\Ps (aO G) us vw:=by have hv:=h.v;rw[JL] at hv;let#[ws,u,e1,_,a,us,e2,e3,e4]:=Ps.split1 hv;have e1:=(List.append_inj' e1 rfl).2;rw[e2] at e1;cases e1;show#[us,e3,e4]
def Cpy.set {o:JK Tr} (i:Nat) (h:Cpy H G p (as++[l]) (Vs++[vw])) (e:G l=⇑(.lst us)) (hu:Ps (aO G) us vw) (ho:aO G o v):Cpy H (upd G l (.lst (us.set i v))) p (as++[l]) (Vs++[vw.set i o]):=by have hf:=h.f l 0x6;have nl:l ∉ as:=λz=>(Ky.mp h.nd).2.2 l z l 0x6 rfl;have hv:=h.v;rw[JL] at hv;let#[ws,u,e1,hv,_]:=Ps.split1 hv;have e1:as.map V.ref=ws:=(List.append_inj' e1 rfl).1;subst e1;show#[h.s.upd hf.1,by rw[am (λz=>hf.2 z.symm)]; exact h.pe,h.hp,h.nd,h.f,?_];rw[JL];exact rH (ki e nl hv) #[l,5,aG,m6 i (Ps.imp (λ_ _ z=>aO.lst e z) hu) (aO.lst e ho)]
end
variable {F:Fx}
def qR {K:Md} {H:Hp} {pl wl nl n1 n2 n3:Mc} {G:F2.Fd} (hP:Pg5 K H pl wl F) (hN:NmA K H nl n1 n2 n3 F) (hG:G∈[F.a,F.b,F.c]):∃nx,ay [V.ref n1,V.ref n2,V.ref n3] (([F.a.name,F.b.name,F.c.name].idxOf G.name:Nat):Int)=⇑↥nx/\aE K H nx ((F2.nms G).map V.str):=by
 have nd:=hP.nd;rw[KN,KN] at nd;have h1:F.a.name≠F.b.name:=λz=>nd.1 (by rw[z]; simp);have h2:F.a.name≠F.c.name:=λz=>nd.1 (by rw[z]; simp);have h3:F.b.name≠F.c.name:=λz=>nd.2.1 (by rw[z]; simp);simp only[JT,J',or_false] at hG;rcases hG with rfl|rfl|rfl
 . rw[KC]; show#[n1,rfl,hN.a]
 . rw[iJ _ h1,KC]; show#[n2,rfl,hN.b]
 . rw[iJ _ h2,iJ _ h3,KC]; show#[n3,rfl,hN.c]
def Pg5.fo {K:Md} {H:Hp} {pl wl:Mc} (hP:Pg5 K H pl wl F):F.o∈[F.a,F.b,F.c]:=by rcases hP.o with⟨_,h⟩|⟨_,h⟩ <;> rw[h] <;> simp
abbrev zro:JK Tr:=⇑(.num 0)
abbrev eX (os:List (JK Tr)) (n:Nat):List (JK Tr):=os++List.replicate (n - os.length) zro
variable {n:Nat}
def CI {os:List (JK Tr)} {i:Nat}{o:JK Tr} (h:os[i]?=⇑o) (l:os.length<=n):(eX (os.take i) n).set i o=eX (os.take (i+1)) n:=by
 have hi:=(JH.mp h).1;unfold eX;have l1:(os.take i).length=i:=by rw[Jk]; lia
 have l2:(os.take (i+1)).length=i+1:=by rw[Jk]; lia
 rw[l1,l2,KE,h,show n - i=(n - (i+1))+1 by lia,Kf,List.set_append_right _ _ ∅,l1,KG];simp
def lX {α:Type} {l:List α} (h:l.length=n+1):∃a b,l=a++[b]:=#[l.dropLast,l.getLast (λz=>by rw[z] at h; cases h),(List.dropLast_concat_getLast _).symm]
def GA {α:Type} (xs:List α) (v:α):(xs++[v])[(xs++[v]).length - 1]?=⇑v:=by rw[JF,show xs.length+[v].length - 1=xs.length from rfl,Jf (JN _),KG]; rfl
def ve {xs:List V} (l:xs.length=n+1) (h:xs[n]?=⇑v):ay xs (-1)=⇑v:=by unfold ay;rw[show cT xs.length (-1)=⇑n by unfold cT; rw[JI #[],JR ∅]; congr 1; lia];exact h
def w6 {xs:List V} (l:xs.length=n+2) (h:xs[n]?=⇑v):ay xs (-2)=⇑v:=by unfold ay;rw[show cT xs.length (-2)=⇑n by unfold cT; rw[JI #[],JR ∅]; congr 1; lia];exact h
inductive Kb5 (K:W.Frag) (H:Hp) (F:Fx) (G:F2.Fd) (rg:RG) (fs0:List (F2.Fd×Nat)) (Vs0:List (List (Option Tr))) (vw:List (Option Tr)):Int->List (List (Option Tr))->Prop
 | k0:Kb5 K H F G rg fs0 Vs0 vw 0 (Vs0++[vw])
 | k1 {y:Str} {p:Addr} {as:List V} {os:List (Option Tr)}:rg=.call y F.o.name p as->aD K H p as->as.length<=20->(∀v∈as,cV (F2.nms G) v)->df (lk (F2.nms G) vw) as=⇑os->os.length<=(F2.nms F.o).length->Kb5 K H F G rg fs0 Vs0 vw 1 (Vs0++[vw]++[eX os (F2.nms F.o).length])
 | k4 {y g:Str} {p:Addr} {as:List V}:rg=.call y g p as->y∈F2.nms G->Kb5 K H F G rg fs0 Vs0 vw 4 (Vs0++[vw.set ((F2.nms G).idxOf y) ⇑(.box (-1))])
 | one {k:Int} {a:V}:(k=2\/k=3)->rg=.back a->fs0=[]->Kb5 K H F G rg fs0 Vs0 vw k (Vs0++[vw])
 | two {k:Int} {a:V} {f1:List (F2.Fd×Nat)} {G1:F2.Fd} {r1:Nat} {V1:List (List (Option Tr))} {v1:List (Option Tr)} {y g:Str} {p:Addr} {as:List V} {o:Option Tr}:(k=2\/k=3)->rg=.back a->fs0=f1++[(G1,r1)]->Vs0=V1++[v1]->CallAt K H G1 r1 y g p as->cV (F2.nms G) a->cz (lk (F2.nms G) vw) a=⇑o->Kb5 K H F G rg fs0 Vs0 vw k (V1++[v1.set ((F2.nms G1).idxOf y) o])
inductive Nx (w:Str):Int->List (Str×Nat)->List (Str×Nat)->Prop
 | k0 {ch:List (Str×Nat)}:Nx w 0 ch ch
 | k1 {ch:List (Str×Nat)}:Nx w 1 ch (ch++[(w,0)])
 | k4 {ch:List (Str×Nat)} {n:Str} {r:Nat}:Nx w 4 (ch++[(n,r)]) (ch++[(n,r+1)])
 | k23 {k:Int} {ch:List (Str×Nat)} {n:Str} {r:Nat} {x:Str×Nat}:(k=2\/k=3)->Nx w k (ch++[(n,r)]++[x]) (ch++[(n,r+1)])
inductive SpN (H0 H:Hp):Str->V->Prop
 | bk {q l a n:Addr}:H q=⇑(.tup [↥l,↥a])->H0 l=none->H l=⇑(.lst [])->H a=⇑(.tup [.str "back",↥n])->H n=⇑(.tup [.str "num",.int 3])->SpN H0 H "back" ↥q
 | wt {q l a s n:Addr}:H q=⇑(.tup [↥l,↥a])->H0 l=none->H l=⇑(.lst [↥s])->H s=⇑(.tup [.int 1,↥n])->H a=⇑(.tup [.str "wait",.non,.int 0])->H n=⇑(.tup [.str "num",.int 4])->SpN H0 H "wait" ↥q
def SpN.mono {H0 H H':Hp} {kd:Str} (e:aA H H') (h:SpN H0 H kd v):SpN H0 H' kd v:=by
 cases h with
 | bk a b c d f=>exact .bk (e _ _ a) b (e _ _ c) (e _ _ d) (e _ _ f)
 | wt a b c d f g=>exact .wt (e _ _ a) b (e _ _ c) (e _ _ d) (e _ _ f) (e _ _ g)
def SpN.q {K:Md} {C:Hp} {sA mA:Mc} {fns:List F2.Fd} {G0 G:Hp} {svs svs':List V} {ks ks':List Str} {mvs mvs':List V} {Ms Ms':List (List Lev)} {kd:Str} (h0:TwoM K C sA mA fns G0 svs ks mvs Ms) (h:TwoM K C sA mA fns G svs' ks' mvs' Ms') (hs:SpN G0 G kd v):gH K (bK sA mA G) kd v:=by
 have nw:∀{b:Mc} {o:HO},G0 b=none->G b=⇑o->bK sA mA G b=⇑o:=λ{b o} n e=>by rw[rJ (λz=>by rw[z,h0.s] at n; cases n) (λz=>by rw[z,h0.m] at n; cases n)];exact e
 cases hs with
 | bk a b c d e =>
   have a:=aD.of (K:=K) (h.at_ a);have d:=aD.of (K:=K) (h.at_ d);show#[#[33,a,d],bH.tup (n:=12) a (.cons (bH.lst (n:=11) (aE.of (nw b c)) .nil) (.cons (bH.tup (n:=11) d (.cons (.str 0x3) (.cons (bH.tup (n:=10) (aD.of (h.at_ e)) (.cons (.str 0x3) (.cons .int .nil))) .nil))) .nil))]
 | wt a b c d e f =>
   have a:=aD.of (K:=K) (h.at_ a);have e:=aD.of (K:=K) (h.at_ e);show#[#[33,a,e],bH.tup (n:=12) a (.cons (bH.lst (n:=11) (aE.of (nw b c)) (.cons (bH.tup (n:=10) (aD.of (h.at_ d)) (.cons .int (.cons (bH.tup (n:=9) (aD.of (h.at_ f)) (.cons (.str 0x3) (.cons .int .nil))) .nil))) .nil)) (.cons (bH.tup (n:=11) e (.cons (.str 0x3) (.cons .non (.cons .int .nil)))) .nil))]
abbrev gG (g:Int->JK Tr) (L:List Lev) (ch:List (Str×Nat)) (Kn:List (List (JK Tr))):Bool:=decide (L.map Lev.fr=ch)&&iO g (L.map Lev.vw) Kn
noncomputable abbrev Fs:=List (F2.Fd×Nat)
abbrev bp (fs:Fs) (Vs:List (List (JK Tr))):List Lev:=(fs.zip Vs).map λp=>#[p.1.1,p.1.2,p.2]
def ka:∀{fs:Fs} {Vs:List (List (JK Tr))},Vs.length=fs.length->(bp fs Vs).map Lev.fr=fs.map bY/\(bp fs Vs).map Lev.vw=Vs/\(bp fs Vs).map Lev.lv=dM (fs.map (·.1)) Vs
 | [],[],_=>#[15]
 | [],_::_,h=>by cases h
 | _::_,[],h=>by cases h
 | x::fs,v::Vs,h=>by
   let#[a,b,c]:=ka (fs:=fs) (Vs:=Vs) ↑h;show#[?_,?_,?_]
   . show Lev.fr #[x.1,x.2,v]::(bp fs Vs).map Lev.fr=_;rw[a]; rfl
   . show v::(bp fs Vs).map Lev.vw=_;rw[b]
   . show Lev.lv #[x.1,x.2,v]::(bp fs Vs).map Lev.lv=_;rw[c]; rfl
def xm {fs:Fs} {Vs:List (List (JK Tr))} {x:F2.Fd×Nat} {v:List (JK Tr)} (h:Vs.length=fs.length):bp (fs++[x]) (Vs++[v])=bp fs Vs++[#[x.1,x.2,v]]:=by unfold bp;rw[List.zip_append h.symm,JL];rfl
structure Ok6 (F:Fx) (fs:Fs) (Vs:List (List (Option Tr))):Prop where
 m:∀x∈fs,x.1∈[F.a,F.b,F.c]/\x.2<x.1.rs.length
 l:Vs.map List.length=fs.map λx=>(F2.nms x.1).length
def Ok6.len {fs:Fs} {Vs:List (List (JK Tr))} (h:Ok6 F fs Vs):Vs.length=fs.length:=by have:=JW List.length h.l; rw[JE,JE] at this; exact this
def Ok6.at {F:Fx} {fs:Fs} {Vs:List (List (JK Tr))} (h:Ok6 F fs Vs) {i:Nat} {x:F2.Fd×Nat} {v:List (JK Tr)} (hx:fs[i]?=⇑x) (hv:Vs[i]?=⇑v):v.length=(F2.nms x.1).length:=by have:=JW (λl:List Nat=>l[i]?) h.l;rw[JS,JS,hx,hv] at this;exact Option.some.inj this
def Ok6.lev {F:Fx} {fs:Fs} {Vs:List (List (JK Tr))} {fns:List F2.Fd} (h:Ok6 F fs Vs) (hf:∀G∈[F.a,F.b,F.c],G∈fns/\(F2.nms G).length<=20):∀e∈bp fs Vs,LevOk fns e/\e.vw∈Vs:=λe he=>by let#[p,hp,rfl]:=Jh.mp he;let#[i,hi]:=Jp hp;have hz:=Jz.mp hi;have hm:=h.m _ (JM hz.1);show#[#[(hf _ hm.1).1,hm.2,h.at hz.1 hz.2,Jj (hf _ hm.1).2 #[]],JM hz.2]
def Ok6.fk {fs:Fs} {Vs:List (List (JK Tr))} {fns:List F2.Fd} (h:Ok6 F fs Vs) (hf:∀G∈[F.a,F.b,F.c],G∈fns):FK fns (fs.map (·.1)) Vs:=by
 show#[λG hG=>?_,by rw[JE,h.len],λp hp=>?_]
 . let#[x,hx,rfl]:=Jh.mp hG;exact hf _ (h.m x hx).1
 . let#[i,hi]:=Jp hp;have hz:=Jz.mp hi;rw[JS,Jg] at hz;obtain⟨⟨x,hx,e⟩,hv⟩:=hz;rw[<- e];exact h.at hx hv
def J1 {A:Ak} {k:Nat} {kd:Str} {L:List Lev} {gs:Fs} {Kn:List (List (JK Tr))} (nd:(A.fns.map (·.name)).Nodup) (h1:A.ks[k]?=⇑kd) (h2:A.Ms[k]?=⇑L) (hL:∀e∈L,LevOk A.fns e) (h:Ok6 F gs Kn) (hf:∀G∈[F.a,F.b,F.c],G∈A.fns) :
   gS A k (gs.map bY) (dM (gs.map (·.1)) Kn)=(!decide (kd="wait")&&gG (bZ A.ps) L (gs.map bY) Kn)/\kP A k (gs.map bY) (dM (gs.map (·.1)) Kn)=(decide (kd="wait")&&gG (bZ A.ps) L (gs.map bY) Kn):=by
 have hn:(gs.map bY).map (·.1)=(gs.map (·.1)).map (·.name):=by rw[K7,K7]; rfl
 have e:=D3 nd h1 h2 hL (h.fk hf) hn;show#[e,?_];have sh:gV (bZ A.ps) L (gs.map bY) (dM (gs.map (·.1)) Kn)=gG (bZ A.ps) L (gs.map bY) Kn:=by
   unfold gV gG;by_cases e:L.map Lev.fr=gs.map bY
   . rw[JG e,K3,K3];refine pJ _ nd hL (h.fk hf) ?_;rw[<- hn,<- e,K7];rfl
   . rw[JP e];rfl
 unfold kP;rw[h1,h2,<- sh]
def BJ {fns:List F2.Fd} {gs:Fs} {Kn:List (List (JK Tr))} (nd:(fns.map (·.name)).Nodup) (sn:∀F∈fns,PyData.strOk F.name=true) (h:Ok6 F gs Kn) (hf:∀G∈[F.a,F.b,F.c],G∈fns) (hv:∀kn∈Kn,bx kn):LvlOk fns (gs.map bY) (dM (gs.map (·.1)) Kn) :=
 Ag nd sn (h.fk hf) hv (by rw[K7,K7]; rfl)
def wI {n:Str}:∀{a b:List Str} {x y:List (JK Tr)},x.length=a.length->n∈a->lk (a++b) (x++y) n=lk a x n
 | [],_,_,_,_,h=>by cases h
 | _::_,_,[],_,h,_=>by cases h
 | m::a,b,v::x,y,hl,h=>by
   show(if n=m then ⇑v else lk (a++b) (x++y) n)=if n=m then ⇑v else lk a x n;by_cases e:n=m
   . rw[JR e,JR e]
   . rw[JI e,JI e,wI ↑hl ((JT.mp h).resolve_left e)]
def qW {n:Str}:∀{a b:List Str} {x y:List (JK Tr)},x.length=a.length->n ∉ a->lk (a++b) (x++y) n=lk b y n
 | [],_,[],_,_,_=>rfl
 | [],_,_::_,_,h,_=>by cases h
 | _::_,_,[],_,h,_=>by cases h
 | m::a,b,v::x,y,hl,h=>by rw[JT,not_or] at h;show(if n=m then ⇑v else lk (a++b) (x++y) n)=_;rw[JI h.1,qW ↑hl h.2]
def pK {f:Lv} {n:Str}:∀{ps:List Str} {as:List V} {g:Lv},n ∉ ps->gp f g (ps.zip as) n=g n
 | [],_,_,_=>rfl
 | _::_,[],_,_=>rfl
 | p::ps,a::as,g,h=>by rw[JT,not_or] at h;show gp f (dq g p _) (ps.zip as) n=_;rw[pK h.2];exact JI h.1
def tK {f:Lv} {n:Str}:∀{ps:List Str} {as:List V} {os:List (JK Tr)} {g:Lv},ps.Nodup->as.length=ps.length->df f as=⇑os->n∈ps->gp f g (ps.zip as) n=lk ps os n
 | [],_,_,_,_,_,_,h=>by cases h
 | p::ps,[],_,_,_,h,_,_=>by cases h
 | p::ps,a::as,os,g,nd,hl,ho,hn=>by
   rw[KN] at nd;let#[o,h1,h2]:=MO.mp (show(cz f a).bind (λo=>(df f as).map λos=>o::os)=⇑os from ho);let#[os',h3,rfl]:=Jg.mp h2;show gp f (dq g p ((cz f a).getD none)) (ps.zip as) n=if n=p then ⇑o else lk ps os' n;rw[h1];by_cases e:n=p
   . rw[JR e,pK (e ▸ nd.1)];exact JR e
   . rw[JI e];exact tK nd.2 ↑hl h3 ((JT.mp hn).resolve_left e)
def pP {n:Str} {o:JK Tr}:∀{ns:List Str},n∈ns->lk ns (List.replicate ns.length o) n=⇑o
 | [],h=>by cases h
 | m::ns,h=>by
   show(if n=m then ⇑o else lk ns (List.replicate ns.length o) n)=_;by_cases e:n=m
   . rw[JR e]
   . rw[JI e,pP ((JT.mp h).resolve_left e)]
def rP {n:Str}:∀{ns:List Str} {vw:List (JK Tr)},n ∉ ns->lk ns vw n=none
 | [],_,_=>rfl
 | _::_,[],_=>rfl
 | m::ns,v::vw,h=>by rw[JT,not_or] at h;show(if n=m then ⇑v else lk ns vw n)=_;rw[JI h.1,rP h.2]
def HL {ps t:List Str} {f:Lv} {as:List V} {os:List (JK Tr)} (nd:(ps++t).Nodup) (hl:as.length=ps.length) (ho:df f as=⇑os):iC (ps++t) ps f as=lk (ps++t) (eX os (ps++t).length):=by
 have lo:=(gr ho).1;have nd':=Ky.mp nd;funext n;unfold iC eX;have lt:(ps++t).length - os.length=t.length:=by rw[JF]; lia
 rw[lt];by_cases h:n∈ps
 . rw[tK nd'.1 hl ho h,wI ∅ h]
 . rw[pK h,qW ∅ h];by_cases h2:n∈t
   . rw[pP h2,JF,List.replicate_append_replicate.symm,qW (by rw[Jr]) h,pP h2];rfl
   . rw[rP h2,rP (λz=>(JV.mp z).elim h h2)]
inductive Sh5 (K:W.Frag) (H:Hp) (F:Fx):Int->Fs->F2.Fd->Nat->RG->Prop
 | call {k:Int} {fs0:Fs}:(k=0\/k=1\/k=4)->fs0.length<=1->Sh5 K H F k fs0 F.b F.rb (.call F.y F.o.name F.p F.as)
 | one {a:V} {r:Nat} {G:F2.Fd}:BackAt K H G r a->Sh5 K H F 2 [] G r (.back a)
 | two {k:Int} {a:V} {r r1:Nat} {G G1:F2.Fd} {f1:Fs} {y g:Str} {p:Addr} {as:List V}:(k=2\/k=3)->BackAt K H G r a->CallAt K H G1 r1 y g p as->Sh5 K H F k (f1++[(G1,r1)]) G r (.back a)
section
variable {K:Md} {H:Hp} {pl wl:Mc} {F:Fx}
def BS (hP:Pg5 K H pl wl F) (dp:Bool) {k:Int} (h0:0<=k) (h5:k<5):∃fs0 G r rg,dX F dp k=fs0++[(G,r)]/\Sh5 K H F k fs0 G r rg/\(∀x∈fs0++[(G,r)],x.1∈[F.a,F.b,F.c]/\x.2<x.1.rs.length)/\fs0.length<=2:=by
 have hb:∀{r},r<=F.rb+2->F.b∈[F.a,F.b,F.c]/\r<F.b.rs.length:=λh=>#[by simp,by rw[hP.lb]; lia]
 have hc:F.c∈[F.a,F.b,F.c]/\F.rc<F.c.rs.length:=#[by simp,by have:=hP.cc.n; lia]
 have hbas:∀x∈dS F dp,x.1∈[F.a,F.b,F.c]/\x.2<x.1.rs.length:=λx hx=>by
   unfold dS at hx;split at hx
   . cases JO.mp hx; exact hc
   . cases hx
 have lb:(dS F dp).length<=1:=by unfold dS; split <;> simp
 by_cases k2:k=2
 . subst k2;have e:dX F dp 2=dS F dp++[(F.b,F.rb+2)]:=by unfold dX; rw[JR rfl]
   show#[dS F dp,F.b,F.rb+2,.back F.xb,e,?_,λx hx=>?_,∅]
   . cases dp with
     | false=>exact .one hP.bb
     | true=>exact .two (f1:=[]) (.inl rfl) hP.bb hP.cc
   . rcases JV.mp hx with h|h
     . exact hbas x h
     . cases JO.mp h; exact hb (JN _)
 by_cases k3:k=3
 . have e:dX F dp k=dS F dp++[(F.b,F.rb)]++[(F.o,F.o.rs.length - 1)]:=by unfold dX; rw[JI k2,JR k3,Jn]
   show#[dS F dp++[(F.b,F.rb)],F.o,F.o.rs.length - 1,.back F.xo,e,.two (.inr k3) hP.bo hP.cb,λx hx=>?_,by rw[JF]; show(dS F dp).length+1<=2; lia];rcases JV.mp hx with h|h
   . rcases JV.mp h with h|h
     . exact hbas x h
     . cases JO.mp h; exact hb ∅
   . cases JO.mp h; show#[hP.fo,by have:=hP.lo; show F.o.rs.length - 1<F.o.rs.length; lia]
 . have e:dX F dp k=dS F dp++[(F.b,F.rb)]:=by unfold dX; rw[JI k2,JI k3,K5]
   show#[dS F dp,F.b,F.rb,_,e,.call ∅ lb,λx hx=>?_,∅];rcases JV.mp hx with h|h
   . exact hbas x h
   . cases JO.mp h; exact hb ∅
def Sh5.row {k:Int} {fs0:Fs} {G:F2.Fd} {r:Nat} {rg:RG} (hP:Pg5 K H pl wl F) (h:Sh5 K H F k fs0 G r rg):(∃c,G.rs[r]?=⇑c/\aD K H c.r rg.items)/\ft K H rg/\qt (F2.nms G) k rg/\∀y g p as,rg=.call y g p as->as.length<=20:=by
 cases h with
 | call hk _ =>
   let#[c,h1,_,h2]:=hP.cb.c;show#[#[c,h1,h2],λx g p as e=>by cases e; show#[hP.cb.p,Jj hP.cb.l #[]],.inl #[hk,33,(hP.ok F.o hP.fo).1,hP.cb.a],λy g p as e=>by cases e; exact hP.cb.l]
 | one hb =>
   let#[c,h1,h2]:=hb.c;show#[#[c,h1,h2],(λx g p as e=>by cases e),.inr #[.inl rfl,5,hb.a],λy g p as e=>by cases e]
 | two hk hb hc =>
   let#[c,h1,h2]:=hb.c;show#[#[c,h1,h2],(λx g p as e=>by cases e),.inr #[hk,5,hb.a],λy g p as e=>by cases e]
def qM {ws:List Str} {vw:List (JK Tr)} (hl:vw.length=ws.length) (h9:ee vw) (hno:cQ vw):∀{as:List V},(∀v∈as,cV ws v)->∃os,df (lk ws vw) as=⇑os/\∀o∈os,∀u,o=⇑u->bI u/\bh u
 | [],_=>#[[],rfl,λo h=>by cases h]
 | a::as,h=>by
   let#[o,h1,h2,h3]:=j5 (h a JZ) hl h9 hno;let#[os,h4,h5]:=qM hl h9 hno λv hv=>h v (JY _ hv);show#[o::os,?_,λq hq u e=>?_]
   . show(cz (lk ws vw) a).bind (λo=>(df (lk ws vw) as).map λos=>o::os)=_;rw[h1,h4]; rfl
   . rcases JT.mp hq with rfl|hq
     . show#[(h2 u e).ok,h3 u e]
     . exact h5 q hq u e
def Sh5.asks {k:Int} {fs0:Fs} {G:F2.Fd} {r:Nat} {rg:RG} {vw:List (JK Tr)} (hP:Pg5 K H pl wl F) (h:Sh5 K H F k fs0 G r rg) (hl:vw.length=(F2.nms G).length) (h9:ee vw) (hno:cQ vw):∃ds s,fC (lk (F2.nms G) vw) rg=⇑(.s s::ds)/\(∀c∈(.s s::ds:List C5),dE c)/\s=rg.kind:=by
 have bk:∀{a:V},cV (F2.nms G) a->∃ds s,fC (lk (F2.nms G) vw) (.back a)=⇑(.s s::ds)/\(∀c∈(.s s::ds:List C5),dE c)/\s=(RG.back a).kind:=λ{a} ha=>by
   let#[o,h1,h2,h3]:=j5 ha hl h9 hno;show#[[.p o],"back",?_,λc hc=>?_,rfl]
   . show(cz (lk (F2.nms G) vw) a).map _=_;rw[h1]; rfl
   . simp only[JT,J',or_false] at hc;rcases hc with rfl|rfl
     . exact(show PyData.strOk "back"=true by decide +kernel)
     . exact λu e=>(h2 u e).ok
 cases h with
 | call hk _ =>
   let#[os,h1,h2]:=qM hl h9 hno hP.cb.a;show#[[.s F.o.name,.t os],"call",?_,λc hc=>?_,rfl]
   . show(df _ F.as).map _=_;rw[h1]; rfl
   . simp only[JT,J',or_false] at hc;rcases hc with rfl|rfl|rfl
     . exact(show PyData.strOk "call"=true by decide +kernel)
     . exact(hP.ok F.o hP.fo).1.2
     . exact λo ho u e=>(h2 o ho u e).1
 | one hb=>exact bk hb.a
 | two hk hb hc=>exact bk hb.a
end
inductive St5 (K:W.Frag) (H:Hp) (F:Fx) (Vs0:List (List (Option Tr))) (vw:List (Option Tr)):Int->Fs->F2.Fd->Nat->RG->List (List (Option Tr))->Fs->Prop
 | k0 {fs0:Fs}:fs0.length<=1->St5 K H F Vs0 vw 0 fs0 F.b F.rb (.call F.y F.o.name F.p F.as) (Vs0++[vw]) (fs0++[(F.b,F.rb)])
 | k1 {fs0:Fs} {os:List (Option Tr)}:fs0.length<=1->df (lk (F2.nms F.b) vw) F.as=⇑os->(∀o∈os,∀u,o=⇑u->bI u/\bh u)->St5 K H F Vs0 vw 1 fs0 F.b F.rb (.call F.y F.o.name F.p F.as) (Vs0++[vw]++[eX os (F2.nms F.o).length]) (fs0++[(F.b,F.rb)]++[(F.o,0)])
 | k4 {fs0:Fs}:fs0.length<=1->St5 K H F Vs0 vw 4 fs0 F.b F.rb (.call F.y F.o.name F.p F.as) (Vs0++[vw.set ((F2.nms F.b).idxOf F.y) ⇑(.box (-1))]) (fs0++[(F.b,F.rb+1)])
 | one {a:V} {r:Nat} {G:F2.Fd}:BackAt K H G r a->St5 K H F Vs0 vw 2 [] G r (.back a) (Vs0++[vw]) []
 | two {k:Int} {a:V} {r r1:Nat} {G G1:F2.Fd} {f1:Fs} {y g:Str} {p:Addr} {as:List V} {V1:List (List (Option Tr))} {v1:List (Option Tr)} {o:Option Tr}:(k=2\/k=3)->BackAt K H G r a->CallAt K H G1 r1 y g p as->Vs0=V1++[v1]->cz (lk (F2.nms G) vw) a=⇑o->(∀u,o=⇑u->bI u/\bh u)->St5 K H F Vs0 vw k (f1++[(G1,r1)]) G r (.back a) (V1++[v1.set ((F2.nms G1).idxOf y) o]) (f1++[(G1,r1+1)])
section
variable {K:Md} {H:Hp} {pl wl:Mc} {F:Fx} {Vs0:List (List (JK Tr))} {vw:List (JK Tr)} {k:Int} {fs0 gs:Fs} {G:F2.Fd} {r:Nat} {rg:RG} {Kn:List (List (JK Tr))}
def CW (hP:Pg5 K H pl wl F) (h:Sh5 K H F k fs0 G r rg) (ho:Ok6 F (fs0++[(G,r)]) (Vs0++[vw])) (hv:vw.length=(F2.nms G).length) (h9:ee vw) (hno:cQ vw):∃Kn gs,St5 K H F Vs0 vw k fs0 G r rg Kn gs:=by
 cases h with
 | call hk l1 =>
   rcases hk with rfl|rfl|rfl
   . show#[4,.k0 l1]
   . let#[os,h1,h2]:=qM hv h9 hno hP.cb.a;show#[4,.k1 l1 h1 h2]
   . show#[4,.k4 l1]
 | one hb=>show#[4,.one hb]
 | @two _ a _ r1 _ G1 f1 _ _ _ _ hk hb hc =>
   let#[o,h1,h2,h3]:=j5 hb.a hv h9 hno;have l:=ho.len;rw[JF,JF,JF] at l;let#[V1,v1,rfl]:=lX (l:=Vs0) (n:=f1.length) ↑l;show#[4,.two hk hb hc rfl h1 λu e=>#[(h2 u e).ok,h3 u e]]
def St5.kb (hP:Pg5 K H pl wl F) (h:St5 K H F Vs0 vw k fs0 G r rg Kn gs):Kb5 K H F G rg fs0 Vs0 vw k Kn:=by
 cases h with
 | k0 _=>exact .k0
 | k1 _ h1 h2 =>
   refine .k1 rfl hP.cb.p hP.cb.l hP.cb.a h1 ?_;let#[e,t,ht]:=hP.ps;rw[<- (gr h1).1,e,ht,JF]; lia
 | k4 _=>exact .k4 rfl hP.cb.y
 | one hb=>exact .one (.inl rfl) rfl rfl
 | two hk hb hc e h1 h2=>exact .two hk rfl rfl e hc hb.a h1
def uE {vw:List (JK Tr)} {i:Nat} {o:JK Tr} (h:dP vw) (ho:∀u,o=⇑u->bI u/\(bh u\/u=.box (-1))):dP (vw.set i o):=λq hq=>(qo hq).elim (λe=>by rw[e]; exact λt z=>#[(ho t z).1,(ho t z).2.elim .inr .inl]) (h q)
def St5.kn (hP:Pg5 K H pl wl F) (h:St5 K H F Vs0 vw k fs0 G r rg Kn gs) (hk:∀v∈Vs0++[vw],dP v/\v.length<=20):∀kn∈Kn,dP kn/\kn.length<=20:=by
 cases h with
 | k0 _=>exact hk
 | k1 _ h1 h2 =>
   intro kn hn;rcases JV.mp hn with h|h
   . exact hk kn h
   . cases JO.mp h;let#[e,t,ht]:=hP.ps;have l20:=(hP.ok F.o hP.fo).2.2.2.1;have lo:=(gr h1).1;show#[λo hm u eu=>?_,by unfold eX; rw[JF,Jr]; rw[ht,JF] at l20 ⊢; lia];rcases JV.mp hm with h|h
     . show#[(h2 o h u eu).1,.inr (h2 o h u eu).2]
     . rw[(Kc.mp h).2] at eu;cases eu;show#[.num #[] #[],.inr trivial]
 | k4 _ =>
   intro kn hn;rcases JV.mp hn with h|h
   . exact hk kn (KB _ h)
   . cases JO.mp h;have:=hk vw 0x6;show#[uE this.1 λu e=>by cases e; show#[pc,.inr rfl],by rw[KD]; exact this.2]
 | one hb=>exact hk
 | @two _ _ _ _ _ _ _ _ _ _ _ V1 v1 _ hk' hb hc e h1 h2 =>
   subst e;intro kn hn;rcases JV.mp hn with h|h
   . exact hk kn (by simp [h])
   . cases JO.mp h;have:=hk v1 0x6;show#[uE this.1 λu e=>#[(h2 u e).1,.inl (h2 u e).2],by rw[KD]; exact this.2]
def uw {fs:Fs} {V0:List (List (JK Tr))} {v:List (JK Tr)} {x:F2.Fd×Nat} {r' i:Nat} {o:JK Tr} (h:Ok6 F (fs++[x]) (V0++[v])) (hr:r'<x.1.rs.length):Ok6 F (fs++[(x.1,r')]) (V0++[v.set i o]):=by
 show#[λy hy=>?_,?_]
 . rcases JV.mp hy with hy|hy
   . exact h.m y (KB _ hy)
   . cases JO.mp hy; show#[(h.m x 0x6).1,hr]
 . have:=h.l;rw[JL,JL] at this ⊢;show _++[(v.set i o).length]=_++[(F2.nms x.1).length];rw[KD];exact this
def mj {fs:Fs} {V0:List (List (JK Tr))} {v:List (JK Tr)} {x:F2.Fd×Nat} (h:Ok6 F (fs++[x]) (V0++[v])):Ok6 F fs V0:=by show#[λy hy=>h.m y (KB _ hy),?_];have:=h.l;rw[JL,JL] at this;exact(List.append_inj' this rfl).1
def St5.nx (hP:Pg5 K H pl wl F) (h:St5 K H F Vs0 vw k fs0 G r rg Kn gs) (ho:Ok6 F (fs0++[(G,r)]) (Vs0++[vw])) (l2:fs0.length<=2):(k=2/\fs0=[]/\gs=[])\/(¬ (k=2/\fs0=[])/\∃gs0 G' r',gs=gs0++[(G',r')]/\Nx F.o.name k ((fs0++[(G,r)]).map bY) (gs.map bY)/\Ok6 F gs Kn/\(k=1->1<G'.rs.length)/\gs0.length<=3):=by
 cases h with
 | k0 _=>exact .inr #[λz=>absurd z.1 #[],17,.k0,ho,λz=>absurd z #[],∅]
 | @k1 _ os _ h1 h2 =>
   have lo2:=hP.lo;refine .inr #[λz=>absurd z.1 #[],17,?_,?_,λ_=>lo2,by rw[JF]; show fs0.length+1<=3; lia]
   . rw[JL (l₂:=[(F.o,0)])];exact .k1
   . let#[e,t,ht]:=hP.ps;have lo:=(gr h1).1;show#[λy hy=>?_,?_]
     . rcases JV.mp hy with hy|hy
       . exact ho.m y hy
       . cases JO.mp hy; show#[hP.fo,by show 0<F.o.rs.length; lia]
     . rw[JL,ho.l,JL (l₂:=[(F.o,0)])];show _++[(eX os (F2.nms F.o).length).length]=_++[(F2.nms F.o).length];unfold eX;rw[JF,Jr,show os.length+((F2.nms F.o).length - os.length)=(F2.nms F.o).length by rw[ht,JF]; lia]
 | k4 _ =>
   refine .inr #[λz=>absurd z.1 #[],17,?_,uw (x:=(F.b,F.rb)) ho (by show F.rb+1<F.b.rs.length; rw[hP.lb]; lia),λz=>absurd z #[],∅];rw[JL,JL];exact .k4
 | one hb=>exact .inl #[15]
 | @two _ _ _ r1 _ G1 f1 _ _ _ _ V1 v1 _ hk hb hc e h1 h2 =>
   subst e;refine .inr #[λz=>absurd z.2 0x6,17,?_,uw (x:=(G1,r1)) (mj ho) hc.n,(λz=>by lia),by rw[JF] at l2; have:[(G1,r1)].length=1:=rfl; lia];rw[JL,JL,JL];exact .k23 hk
def St5.l3 (h:St5 K H F Vs0 vw k fs0 G r rg Kn gs) (ho:Ok6 F (fs0++[(G,r)]) (Vs0++[vw])) (l2:fs0.length<=2):Kn.length<=3:=by
 have l:=ho.len;rw[JF,JF] at l;have l:Vs0.length=fs0.length:=↑l
 cases h with
 | k0 _=>rw[JF]; show Vs0.length+1<=3; lia
 | k1 _ _ _=>rw[JF,JF]; show Vs0.length+1+1<=3; lia
 | k4 _=>rw[JF]; show Vs0.length+1<=3; lia
 | one _=>rw[JF]; show Vs0.length+1<=3; lia
 | two _ _ _ e _ _=>rw[e,JF] at l; rw[JF] at l2 ⊢; simp at l l2 ⊢; lia
def Sh5.mono {H':Hp} (e:aA H H') (h:Sh5 K H F k fs0 G r rg):Sh5 K H' F k fs0 G r rg:=by
 cases h with
 | call a b=>exact .call a b
 | one a=>exact .one (a*>e)
 | two a b c=>exact .two a (b*>e) (c*>e)
def St5.mono {H':Hp} (e:aA H H') (h:St5 K H F Vs0 vw k fs0 G r rg Kn gs):St5 K H' F Vs0 vw k fs0 G r rg Kn gs:=by
 cases h with
 | k0 a=>exact .k0 a
 | k1 a b c=>exact .k1 a b c
 | k4 a=>exact .k4 a
 | one a=>exact .one (a*>e)
 | two a b c d f g=>exact .two a (b*>e) (c*>e) d f g
end
end Cb
namespace K45
open PySem L2 Gx Fl Bg Wk St Br Cb
abbrev bJ (i:Nat):Stmt:=PySem.Challenge.pw_stopglass_k45_calls_and_backs_held.main.body.getD i (.Pass #[(0),(0),(0),(0)])
noncomputable abbrev km:Stmt:=bJ 3
noncomputable abbrev rF:Stmt:=bJ 4
noncomputable abbrev qL:Stmt:=bJ 5
noncomputable abbrev qq:Stmt:=bJ 6
noncomputable abbrev sW:Stmt:=bJ 7
noncomputable abbrev jX:Stmt:=bJ 8
noncomputable abbrev nJ:Stmt:=bJ 9
noncomputable abbrev kq:Stmt:=bJ 10
noncomputable abbrev nt:Stmt:=gf (bJ 11) 0
noncomputable abbrev qQ:Stmt:=gf (bJ 11) 1
noncomputable abbrev rW:Stmt:=gf (bJ 11) 2
noncomputable abbrev rQ:Stmt:=bJ 14
noncomputable abbrev qD:Stmt:=bJ 16
noncomputable abbrev lH:Stmt:=bJ 17
noncomputable abbrev sN:Stmt:=bJ 21
noncomputable abbrev sP:Stmt:=bJ 22
noncomputable abbrev qJ:Stmt:=bJ 23
noncomputable abbrev mQ:Stmt:=bJ 24
noncomputable abbrev m5:Stmt:=bJ 26
noncomputable abbrev pZ:Stmt:=bJ 27
noncomputable abbrev kQ:Stmt:=bJ 28
noncomputable abbrev kO:Stmt:=bJ 29
noncomputable abbrev gY:Stmt:=gf (bJ 30) 0
noncomputable abbrev iQ:Stmt:=gf (bJ 30) 1
noncomputable abbrev mF:Stmt:=gf (bJ 30) 2
noncomputable abbrev rT:Stmt:=gf (bJ 30) 4
noncomputable abbrev pG:Stmt:=gf (bJ 30) 5
noncomputable abbrev rD:Stmt:=gf (bJ 30) 6
noncomputable abbrev lP:Stmt:=gf (bJ 30) 7
noncomputable abbrev qe:Stmt:=bJ 32
noncomputable abbrev rO:Stmt:=bJ 34
noncomputable abbrev sJ:Stmt:=bJ 35
noncomputable abbrev ja:Stmt:=bJ 36
noncomputable abbrev rM:Stmt:=bJ 37
noncomputable abbrev kL:Stmt:=bJ 38
noncomputable abbrev nU:Stmt:=bJ 39
noncomputable abbrev nW:Stmt:=bJ 40
noncomputable abbrev mW:Stmt:=bJ 41
noncomputable abbrev kR:Stmt:=bJ 42
noncomputable abbrev lQ:Stmt:=bJ 43
noncomputable abbrev sM:Stmt:=bJ 44
noncomputable abbrev iK:Stmt:=bJ 45
noncomputable abbrev ox:Stmt:=bJ 46
noncomputable abbrev qp:Stmt:=bJ 47
noncomputable abbrev lC:Stmt:=bJ 48
noncomputable abbrev iu:Stmt:=bJ 49
noncomputable abbrev my:Stmt:=bJ 50
noncomputable abbrev fU:Stmt:=bJ 51
noncomputable abbrev ii:Stmt:=bJ 52
noncomputable abbrev nA:Stmt:=bJ 53
noncomputable abbrev ik:Stmt:=bJ 54
noncomputable abbrev mX:Stmt:=bJ 55
noncomputable abbrev oI:Stmt:=bJ 56
noncomputable abbrev g7:Stmt:=bJ 57
set_option genInjectivity false in
set_option genSizeOf false in
structure Adr where
 bR:Addr
 aR:Addr
 yz:Addr
 A3:FuncData
 z7:Addr
 A5:FuncData
 yV:Addr
 za:FuncData
 yP:Addr
 zT:FuncData
 yS:Addr
 zW:FuncData
 zB:Addr
 A9:FuncData
 yQ:Addr
 zU:FuncData
 yU:Addr
 zY:FuncData
 yE:Addr
 zG:FuncData
 yF:Addr
 zH:FuncData
 yG:Addr
 zJ:FuncData
 zA:Addr
 A8:FuncData
 z9:Addr
 A7:FuncData
 oY:Addr
 oh:FuncData
 yx:Addr
 A1:FuncData
 z6:Addr
 A4:FuncData
 yy:Addr
 A2:FuncData
 zC:Addr
 AA:FuncData
 yT:Addr
 zX:FuncData
 yw:Addr
 A0:FuncData
 yO:Addr
 zS:FuncData
 yR:Addr
 zV:FuncData
 yK:Addr
 zN:FuncData
 yN:Addr
 zR:FuncData
 yJ:Addr
 zM:FuncData
 yI:Addr
 zL:FuncData
 yH:Addr
 zK:FuncData
 yL:Addr
 zP:FuncData
 yM:Addr
 zQ:FuncData
 z8:Addr
 A6:FuncData
 yb:Addr
 zg:FuncData
 yr:Addr
 zx:FuncData
 yh:Addr
 zm:FuncData
 yp:Addr
 zv:FuncData
 mK:Addr
 mL:FuncData
 yt:Addr
 zy:FuncData
 yo:Addr
 zu:FuncData
 yi:Addr
 zn:FuncData
 yg:Addr
 zk:FuncData
 yf:Addr
 zj:FuncData
 yZ:Addr
 ze:FuncData
 yl:Addr
 zq:FuncData
 yk:Addr
 zp:FuncData
 yn:Addr
 zt:FuncData
 yd:Addr
 zh:FuncData
 ya:Addr
 zf:FuncData
 yj:Addr
 zo:FuncData
 yW:Addr
 zb:FuncData
 ym:Addr
 zr:FuncData
 ye:Addr
 zi:FuncData
 yX:Addr
 zc:FuncData
 yq:Addr
 zw:FuncData
 yY:Addr
 zd:FuncData
 yu:Addr
 oZ:FuncData
 su:Addr
 bT:Addr
 sw:Addr
 mJ:Addr
structure Txt (K:W.Frag) (mg:Str->Option Value) (t:Adr):Prop where
 names_of:DefOk K mg "names_of" km ["function"] t.yz t.A3
 reads:DefOk K mg "reads" rF ["row"] t.z7 t.A5
 gives:DefOk K mg "gives" qL ["row"] t.yV t.za
 atoms_of:DefOk K mg "atoms_of" qq ["row"] t.yP t.zT
 each_once:DefOk K mg "each_once" sW ["names"] t.yS t.zW
 ways:DefOk K mg "ways" jX ["rows"] t.zB t.A9
 begins_of:DefOk K mg "begins_of" nJ ["rows"] t.yQ t.zU
 firsts_behind:DefOk K mg "firsts_behind" kq ["rows","begins"] t.yU t.zY
 yC:IniOk K t.bR "Flows.__init__" nt ["self","program"] t.yE t.zG
 mG:MetOk K t.bR "row_at" "Flows.row_at" qQ ["self","frame"] t.yF t.zH
 si:MetOk K t.bR "ways_at" "Flows.ways_at" rW ["self","frame"] t.yG t.zJ
 value:DefOk K mg "value" rQ ["sign","one","other"] t.zA t.A8
 together:DefOk K mg "together" qD ["sign","left","right"] t.z9 t.A7
 put_through:DefOk K mg "put_through" lH ["one","news"] t.oY t.oh
 levels_of:DefOk K mg "levels_of" sN ["flows","mark"] t.yx t.A1
 place_of:DefOk K mg "place_of" sP ["named","atom"] t.z6 t.A4
 moved:DefOk K mg "moved" qJ ["flows","chain","way"] t.yy t.A2
 with_given:DefOk K mg "with_given" mQ ["levels","name","place"] t.zC t.AA
 entered:DefOk K mg "entered" m5 ["flows","row","levels"] t.yT t.zX
 left_behind:DefOk K mg "left_behind" pZ ["call","back","levels"] t.yw t.A0
 asked_act:DefOk K mg "asked_act" kQ ["row","named"] t.yO t.zS
 boxes_behind:DefOk K mg "boxes_behind" kO ["spot"] t.yR t.zV
 yD:IniOk K t.aR "Step.__init__" gY ["self","flows","spots","marks","k"] t.yK t.zN
 sr:MetOk K t.aR "stands" "Step.stands" iQ ["self"] t.yN t.zR
 sk:MetOk K t.aR "goes" "Step.goes" mF ["self","k"] t.yJ t.zM
 sj:MetOk K t.aR "comes_on" "Step.comes_on" rT ["self","k","levels"] t.yI t.zL
 jI:MetOk K t.aR "arrives" "Step.arrives" pG ["self","k","chain","levels"] t.yH t.zK
 mH:MetOk K t.aR "is_wait" "Step.is_wait" rD ["self","k"] t.yL t.zP
 mI:MetOk K t.aR "shows" "Step.shows" lP ["self","k","chain","levels"] t.yM t.zQ
 spot_holds:DefOk K mg "spot_holds" qe ["program","spots","marks","k"] t.z8 t.A6
 AF:DefOk K mg "_law_cell_at" rO ["_law_script","_law_k"] t.yb t.zg
 AQ:DefOk K mg "_law_value" sJ ["_law_sign","_law_one","_law_other"] t.yr t.zx
 mM:DefOk K mg "_law_names" ja ["_law_cell","_law_many"] t.yh t.zm
 kE:DefOk K mg "_law_some" rM ["_law_cell","_law_boxes"] t.yp t.zv
 kF:DefOk K mg "_law_through" kL ["_law_one","_law_news_here"] t.mK t.mL
 AR:DefOk K mg "_law_view" nU ["_law_cell","_law_size","_law_boxes","_law_calm"] t.yt t.zy
 AN:DefOk K mg "_law_sets" nW ["_law_cell","_law_known","_law_boxes"] t.yo t.zu
 t8:DefOk K mg "_law_news" mW ["_law_sets_here","_law_box"] t.yi t.zn
 AJ:DefOk K mg "_law_landing" kR ["_law_cell","_law_known","_law_news_here","_law_boxes","_law_calm"] t.yg t.zk
 AI:DefOk K mg "_law_held" lQ ["_law_mark","_law_chain_here","_law_known","_law_news_here"] t.yf t.zj
 oj:DefOk K mg "_law_atom" sM ["_law_cell","_law_names_here"] t.yZ t.ze
 AL:DefOk K mg "_law_program" iK ["_law_cells","_law_words","_law_own"] t.yl t.zq
 l_of:DefOk K mg "_law_of" ox ["_law_atom_here","_law_names_here","_law_view_here"] t.yk t.zp
 kC:DefOk K mg "_law_row" qp ["_law_program_here","_law_frame"] t.yn t.zt
 AG:DefOk K mg "_law_chain" lC ["_law_program_here","_law_words","_law_kind","_law_deep","_law_own"] t.yd t.zh
 AE:DefOk K mg "_law_behind" iu ["_law_program_here","_law_names_here","_law_words","_law_chain_here","_law_kind","_law_views"] t.ya t.zf
 AK:DefOk K mg "_law_next" my ["_law_chain_here","_law_kind","_law_called"] t.yj t.zo
 AB:DefOk K mg "_law_act" fU ["_law_row_here","_law_names_here","_law_view_here","_law_kind","_law_first","_law_cells","_law_words","_law_boxes","_law_on"] t.yW t.zb
 AM:DefOk K mg "_law_right" ii ["_law_row_here","_law_names_here","_law_view_here","_law_kind","_law_first","_law_act_here"] t.ym t.zr
 AH:DefOk K mg "_law_flat" nA ["_law_views"] t.ye t.zi
 AC:DefOk K mg "_law_arrival" ik ["_law_program_here","_law_cell","_law_chain_here","_law_kind","_law_calm"] t.yX t.zc
 AO:DefOk K mg "_law_turned_about" mX ["_law_program_here","_law_cell"] t.yq t.zw
 AD:DefOk K mg "_law_asked" oI ["_law_program_here","_law_spots","_law_marks","_law_k","_law_due"] t.yY t.zd
 law:DefOk K mg "law" g7 ["_law_script"] t.yu t.oZ
 cw:ClsOk K mg "Flows" t.bR
 aw:ClsOk K mg "Step" t.aR
 JA:d7 K t.bR "last"
 AT:d7 K t.bR "number_of"
 AS:d7 K t.bR "folded_of"
 t9:d7 K t.bR "params_of"
 tD:d7 K t.bR "rows_of"
 om:d7 K t.bR "names_in"
 tE:d7 K t.bR "ways_in"
 kG:d7 K t.aR "flows"
 AV:d7 K t.aR "spots"
 tF:d7 K t.aR "marks"
 cj:d7 K t.aR "act"
 iA:d7 K t.aR "chain"
 il:d7 K t.aR "ahead"
 fB:d7 K t.aR "row"
 AU:d7 K t.aR "news"
 t7:∃tk,mg "WIDE"=⇑(.int 281474976710656 tk)
 J9:mg "GIVING_KINDS"=⇑↥t.su
 JB:∀H:Hp,aD K H t.su (K12.giving.map V.str)
 zD:mg "BROUGHT"=⇑↥t.bT
 jJ:∀H:Hp,aD K H t.bT [V.str "brought"]
 J8:mg "ATOM_PLACES"=⇑↥t.sw
 JC:rG K t.sw K12.tabl
 zE:mg "FILLED_PLACES"=⇑↥t.mJ
 tI:nT K t.mJ [("get",3),("new",1),("wait",1)]
 b_len:mg "len"=none
 b_list:mg "list"=none
 b_tuple:mg "tuple"=none
 b_isinstance:mg "isinstance"=none
 b_range:mg "range"=none
 b_all:mg "all"=none
 b_enumerate:mg "enumerate"=none
 b_dict:mg "dict"=none
 b_str:mg "str"=none
 b_zip:mg "zip"=none
 b_bool:mg "bool"=none
 b_int:mg "int"=none
 b_max:mg "max"=none
 b_reversed:mg "reversed"=none
 bl:∀(s:Shared) (u:Value),BindsTo s t.oZ #[[u],[]] [("_law_script",u)]
section
variable {P:Program} {w:World} {K:Md} {mg:Str->JK Ma} {base:Heap} {t:Adr}
abbrev Bl (K:Md) (t:Adr):Sp:=λvs H Q _=>∃(x dx p:Mc) (fns:List F2.Fd),vs=[↥x,↥p]/\H x=⇑(.ins t.bR dx [])/\aE K (ers x H) p (fns.map λf=>V.ref f.fa)/\fns≠[]/\fns.length<=12/\(∀f∈fns,F2.FnAt K (ers x H) f)/\(∀f∈fns,Plr (F2.kds f))/\(fns.map (·.name)).Nodup /\
 ∀H',aA (ers x H) H'->F2.FlowsAt K t.bR H' x fns->Q .non H'
abbrev De (K:Md):Sp:=λvs H Q _=>∃(s:Str) (a b:Int),vs=[.str s,.int a,.int b]/\0<=a/\0<=b/\a<K21.wide/\b<K21.wide/\Q (.int (K21.valOf s a b)) H
abbrev BE (K:Md) (t:Adr):Sp:=λvs H Q _=>∃(s:Str) (tl tr:Rk2.Tr) (x y:V),vs=[.str s,x,y]/\Rk2.Sg s/\RB K t.bT H tl x/\RB K t.bT H tr y/\Rk2.okl (Rk2.lvs tl)/\Rk2.okl (Rk2.lvs tr)/\∀v H',aA H H'->RB K t.bT H' (Rk2.tog s tl tr) v->Q v H'
abbrev pj (K:Md) (t:Adr) (n:Nat):Sp:=λvs H Q _=>∃(tr:Rk2.Tr) (v:V) (d:Mc) (kvs:List (aI×V)) (g:Int->JK Rk2.Tr),vs=[v,↥d]/\Rk2.dp tr<n/\bh tr/\Rk2.RAt H tr v/\H d=⇑(.dK kvs)/\NB K t.bT H kvs g/\Rk2.okl (Rk2.lvs tr)/\(∀k t,g k=⇑t->Rk2.okl (Rk2.lvs t))/\∀v' H',aA H H'->RB K t.bT H' (Rk2.pt g tr) v'->Q v' H'
abbrev Fh (K:Md) (t:Adr):Sp:=λvs H Q _=>∃(x fa:Mc) (fns:List F2.Fd) (F:F2.Fd) (r:Nat) (w:Rw),vs=[↥x,↥fa]/\F2.FlowsAt K t.bR H x fns/\F∈fns/\aD K H fa [.str F.name,.int r]/\F.rs[r]?=⇑w/\Q ↥w.r H
abbrev Ej (K:Md) (t:Adr):Sp:=λvs H Q _=>∃(x fa:Mc) (fns:List F2.Fd) (F:F2.Fd) (r j to_:Nat),vs=[↥x,↥fa]/\F2.FlowsAt K t.bR H x fns/\F∈fns/\aD K H fa [.str F.name,.int r]/\r<F.rs.length/\jq F r j to_/\∀tp l,aD K H tp (K13.natsV l)->l[j]?=⇑to_->Q ↥tp H
abbrev D9 (K:Md) (t:Adr):Sp:=λvs H Q _=>∃(x:Mc) (cv:V) (fns:List F2.Fd) (ch:List (Str×Nat)) (F:F2.Fd) (r j to_:Nat),vs=[↥x,cv,.int j]/\F2.FlowsAt K t.bR H x fns/\cX K H (ch++[(F.name,r)]) cv/\F∈fns/\r<F.rs.length/\jq F r j to_/\ch.length<=10/\∀cv' H',aA H H'->cX K H' (ch++[(F.name,to_)]) cv'->Q cv' H'
abbrev EY (K:Md) (t:Adr):Sp:=λvs H Q _=>∃(b:Nat) (d:Mc) (f:Lv) (a:V) (o:JK Rk2.Tr),vs=[↥d,a]/\jy K t.bT b H f d/\cz f a=⇑o/\∀v H',aA H H'->VB K t.bT H' o v->Q v H'
abbrev Iq (K:Md) (t:Adr):Sp:=λvs H Q _=>∃(lv pv:V) (n:Str) (fs:List Lv) (f:Lv) (o:JK Rk2.Tr),vs=[lv,.str n,pv]/\dF K t.bT 1000 H (fs++[f]) lv/\VB K t.bT H o pv/\fs.length<=10/\∀lv' H',aA H H'->dF K t.bT 1001 H' (fs++[dq f n o]) lv'->Q lv' H'
abbrev Ao (K:Md) (t:Adr):Sp:=λvs H Q _=>∃(x:Mc) (m:V) (fns:List F2.Fd) (L:List Lev),vs=[↥x,m]/\F2.FlowsAt K t.bR H x fns/\gW K H (eR L) m/\(∀e∈L,LevOk fns e)/\L.length<=11/\∀v H',aA H H'->rE H H' L v->Q v H'
abbrev Av (K:Md) (t:Adr):Sp:=λvs H Q _=>∃(v:V) (ps:List (Int×Rk2.Tr)) (a:Mc) (as:List V) (fb:JK Int),vs=[v]/\ge K H ps a v/\aD K H a as/\lY as fb/\ps.length<=1000/\(∀b∈ps,bh b.2)/\∀d kvs H',aA H H'->H' d=⇑(.dK kvs)->NB K t.bT H' kvs (bZ (ps++dN fb))->Q ↥d H'
abbrev Am (K:Md) (t:Adr):Sp:=λvs H Q _=>∃(x dx fl sp mk a:Mc) (k:Nat) (fns:List F2.Fd) (svs mvs:List V) (ks:List Str) (Ms:List (List Lev)) (L0:List Lev) (e:Lev) (ps:List (Int×Rk2.Tr)) (as:List V) (v:V) (fb:JK Int),vs=[↥x,↥fl,↥sp,↥mk,.int (k:Int)]/\H x=⇑(.ins t.aR dx [])/\TbA K t.bR (ers x H) fl sp mk fns svs mvs ks Ms/\Ms[k]?=⇑(L0++[e])/\svs[k]?=⇑v/\ge K (ers x H) ps a v/\aD K (ers x H) a as/\lY as fb/\ps.length<=1000/\(∀b∈ps,bh b.2)/\(∀e'∈L0++[e],cQ e'.vw) /\
 ∀S H',aA (ers x H) H'->StpB K t.bT t.aR t.bR H' x #[S,fns,svs,mvs,ks,Ms,L0,e,ps++dN fb,as]->Q .non H'
abbrev GB (K:Md) (t:Adr):Sp:=λvs H Q _=>∃(x:Mc) (A:Ak) (k:Nat) (kd:Str),vs=[↥x,.int (k:Int)]/\StpB K t.bT t.aR t.bR H x A/\A.ks[k]?=⇑kd/\Q (.bl (decide (kd="wait"))) H
abbrev HM (K:Md) (t:Adr):Sp:=λvs H Q _=>∃(x:Mc) (A:Ak) (k:Nat) (L:List Lev) (ch:List (Str×Nat)) (fs:List Lv) (cv lv:V),vs=[↥x,.int (k:Int),cv,lv]/\StpB K t.bT t.aR t.bR H x A/\AkB A/\A.Ms[k]?=⇑L/\cX K H ch cv/\dF K t.bT 1001 H fs lv/\LvlOk A.fns ch fs/\∀H',aA H H'->Q (.bl (gV (bZ A.ps) L ch fs)) H'
abbrev HJ (K:Md) (t:Adr):Sp:=λvs H Q _=>∃(x:Mc) (A:Ak) (k:Nat) (ch:List (Str×Nat)) (fs:List Lv) (cv lv:V),vs=[↥x,.int (k:Int),cv,lv]/\StpB K t.bT t.aR t.bR H x A/\AkB A/\k<A.Ms.length/\cX K H ch cv/\dF K t.bT 1001 H fs lv/\LvlOk A.fns ch fs/\∀H',aA H H'->Q (.bl (gS A k ch fs)) H'
abbrev Dl (K:Md) (t:Adr):Sp:=λvs H Q _=>∃(x:Mc) (A:Ak) (k to_:Nat) (fs:List Lv) (lv:V),vs=[↥x,.int (k:Int),lv]/\StpB K t.bT t.aR t.bR H x A/\AkB A/\k<A.Ms.length/\jq A.e.F A.e.r 0 to_/\dF K t.bT 1001 H fs lv/\LvlOk A.fns (A.L0.map Lev.fr++[(A.e.F.name,to_)]) fs/\∀H',aA H H'->Q (.bl (gS A k (A.L0.map Lev.fr++[(A.e.F.name,to_)]) fs)) H'
abbrev BL (K:Md) (t:Adr):Sp:=λvs H Q _=>∃(r d:Mc) (rg:RG) (f:Lv) (b:Nat) (cs:List C5),vs=[↥r,↥d]/\aD K H r rg.items/\ft K H rg/\jy K t.bT b H f d/\fC f rg=⇑cs/\(∀c∈cs,dE c)/\cs.length<=3/\∀p vs' H',aA H H'->aD K H' p vs'->Rk2.Ps (ff K t.bT H') vs' cs->Q ↥p H'
abbrev GH (K:Md) (t:Adr):Sp:=λvs H Q _=>∃(x:Mc) (A:Ak) (k:Nat) (rg:RG) (b:Bool),vs=[↥x,.int (k:Int)]/\StpB K t.bT t.aR t.bR H x A/\AkB A/\aD K H A.S.r rg.items/\ft K H rg/\A.as=[.str "go",.int (k:Int)]/\S5 K t.bT H A rg b/\∀H',aA H H'->Q (.bl b) H'
abbrev GM (K:Md) (t:Adr):Sp:=λvs H Q _=>∃(x:Mc) (A:Ak) (rg:RG) (b:Bool),vs=[↥x]/\StpB K t.bT t.aR t.bR H x A/\AkB A/\aD K H A.S.r rg.items/\ft K H rg/\S5 K t.bT H A rg b/\∀H',aA H H'->Q (.bl b) H'
abbrev Du (K:Md) (t:Adr):Sp:=λvs H Q _=>∃(p sp mk a:Mc) (k:Nat) (A:Ak) (ps:List (Int×Rk2.Tr)) (fb:JK Int) (rg:RG) (v:V) (w:Rw) (b:Bool),vs=[↥p,↥sp,↥mk,.int (k:Int)]/\A.ps=ps++dN fb/\aE K H p (A.fns.map λf=>V.ref f.fa)/\A.fns≠[]/\A.fns.length<=12/\(∀f∈A.fns,F2.FnAt K H f)/\(∀f∈A.fns,Plr (F2.kds f))/\(A.fns.map (·.name)).Nodup/\TbB K H sp mk A/\A.Ms[k]?=⇑(A.L0++[A.e])/\A.svs[k]?=⇑v/\ge K H ps a v/\aD K H a A.as/\lY A.as fb/\ps.length<=1000/\(∀b∈ps,bh b.2)/\(∀e'∈A.L0++[A.e],cQ e'.vw)/\AkB A/\A.e.F.rs[A.e.r]?=⇑w/\aD K H w.r rg.items/\ft K H rg/\S5 K t.bT H A rg b/\∀H',aA H H'->Q (.bl b) H'
abbrev GZ (K:Md) (t:Adr):Sp:=λvs H Q _=>∃(x r p:Mc) (lv:V) (fns:List F2.Fd) (F:F2.Fd) (y:Str) (as:List V) (os:List (JK Rk2.Tr)) (fs:List Lv) (f:Lv),vs=[↥x,↥r,lv]/\F2.FlowsAt K t.bR H x fns/\F∈fns/\aD K H r [.str "call",.str y,.str F.name,↥p]/\aD K H p as/\dF K t.bT 1000 H (fs++[f]) lv/\fs.length<=10/\df f as=⇑os/\(F2.nms F).length<=500/\F.ps.length<=500/\∀lv' H',aA H H'->dF K t.bT 1001 H' (fs++[f]++[iC (F2.nms F) F.ps f as]) lv'->Q lv' H'
abbrev BO (K:Md) (t:Adr):Sp:=λvs H Q _=>∃(c r p:Mc) (lv:V) (y g:Str) (a:V) (o:JK Rk2.Tr) (fs:List Lv) (f1 f2:Lv),vs=[↥c,↥r,lv]/\aD K H c [.str "call",.str y,.str g,↥p]/\aD K H r [.str "back",a]/\dF K t.bT 1000 H (fs++[f1]++[f2]) lv/\fs.length<=10/\cz f2 a=⇑o/\∀lv' H',aA H H'->dF K t.bT 1001 H' (fs++[dq f1 y o]) lv'->Q lv' H'
abbrev FA (K:Md):Sp:=λvs H Q _=>∃(a:Mc) (ns:List Int) (k:Int),vs=[↥a,.int k]/\aE K H a (ns.map V.int)/\ns.length<=63/\0<=k/\∀z,Q (.int z) H
abbrev E3 (K:Md):Sp:=λvs H Q _=>∃(s:Str) (a b:Int),vs=[.str s,.int a,.int b]/\0<=a/\0<=b/\a<K21.wide/\b<K21.wide/\Q (.int (K21.valOf s a b)) H
abbrev CQ (K:Md):Sp:=λvs H Q _=>∃(c:Int) (mn:Nat),vs=[.int c,.int mn]/\mn<=20/\∀ws:List Str,ws.length=mn->ws.Nodup->(∀w∈ws,K12.Nm w)->K12.Gives H Q (ws.map V.str)
abbrev CZ (K:Md):Sp:=λvs H Q _=>∃(c:Int) (bl:Mc) (bs:List Int),vs=[.int c,↥bl]/\aE K H bl (bs.map V.int)/\iG bs/\∀tr v H',aA H H'->Rk2.RAt H' tr v->TOk tr->Q v H'
abbrev md (K:Md) (n:Nat):Sp:=λvs H Q _=>∃(tr:Rk2.Tr) (v:V) (d:Mc) (kvs:List (aI×V)) (g:Int->JK Rk2.Tr),vs=[v,↥d]/\Rk2.dp tr<n/\Rk2.RAt H tr v/\H d=⇑(.dK kvs)/\Rk2.NV H kvs g/\Rk2.okl (Rk2.lvs tr)/\(∀k t,g k=⇑t->Rk2.okl (Rk2.lvs t))/\∀v' H',aA H H'->Rk2.RAt H' (Rk2.pt g tr) v'->Q v' H'
abbrev pi (H:Hp) (Q:VK) (ok:List (JK Rk2.Tr)->Prop):Prop:=∀l us vw H',aA H H'->H l=none->H' l=⇑(.lst us)->Rk2.Ps (aO H') us vw->ok vw->Q ↥l H'
abbrev CY (K:Md):Sp:=λvs H Q _=>∃(c:Int) (sz:Nat) (bl:Mc) (bs:List Int) (cm:Int),vs=[.int c,.int sz,↥bl,.int cm]/\sz<=20/\aE K H bl (bs.map V.int)/\iG bs/\0<=cm/\pi H Q (λvw=>vw.length=sz/\ee vw/\cQ vw)
abbrev Eu (K:Md):Sp:=λvs H Q _=>∃(c:Int) (kl bl:Mc) (us:List V) (ko:List (JK Rk2.Tr)) (bs:List Int),vs=[.int c,↥kl,↥bl]/\aE K H kl us/\Rk2.Ps (aO H) us ko/\dP ko/\ko.length<=100/\aE K H bl (bs.map V.int)/\iG bs/\∀l xs ps H',aA H H'->H l=none->H' l=⇑(.lst xs)->Rk2.Ps (gR K H') xs ps->ps.length<=10->(∀b∈ps,bI b.2/\bh b.2)->Q ↥l H'
abbrev IV (K:Md):Sp:=λvs H Q _=>∃(l:Mc) (xs:List V) (ps:List (Int×Rk2.Tr)) (bv:V) (fb:JK Int),vs=[↥l,bv]/\(bv=.non/\fb=none\/∃i,bv=.int i/\fb=⇑i)/\aE K H l xs/\Rk2.Ps (gR K H) xs ps/\ps.length<=100/\∀d kvs H',aA H H'->H d=none->H' d=⇑(.dK kvs)->Rk2.NV H' kvs (bZ (ps++dN fb))->Q ↥d H'
abbrev NwA (H:Hp) (d:Mc) (g:Int->JK Rk2.Tr):Prop:=(∃kvs,H d=⇑(.dK kvs)/\Rk2.NV H kvs g)/\∀k t,g k=⇑t->bI t
abbrev D0 (K:Md):Sp:=λvs H Q _=>∃(c:Int) (kl nd bl:Mc) (us:List V) (ko:List (JK Rk2.Tr)) (g:Int->JK Rk2.Tr) (bs:List Int) (cm:Int),vs=[.int c,↥kl,↥nd,↥bl,.int cm]/\aE K H kl us/\Rk2.Ps (aO H) us ko/\dP ko/\ko.length<=100/\NwA H nd g/\aE K H bl (bs.map V.int)/\iG bs/\pi H Q (λvw=>vw.length=ko.length/\bx vw/\cQ vw)
abbrev CB (K:Md):Sp:=λvs H Q _=>∃(l:Mc) (ws:List V) (Kn:List (List (JK Rk2.Tr))),vs=[↥l]/\aE K H l ws/\Rk2.Ps (dA H) ws Kn/\(∀kn∈Kn,dP kn/\kn.length<=20)/\Kn.length<=3/\pi H Q (λvw=>vw.length<=100/\dP vw)
abbrev AW (K:Md):Sp:=λvs H Q _=>∃(c:Int) (nl:Mc) (ws:List Str),vs=[.int c,↥nl]/\aE K H nl (ws.map V.str)/\ws.length<=20/\∀a H',aA H H'->cV ws a->Q a H'
abbrev Bq (K:Md):Sp:=λvs H Q _=>∃(a:V) (nl vl:Mc) (ws:List Str) (us:List V) (vw:List (JK Rk2.Tr)) (o:JK Rk2.Tr),vs=[a,↥nl,↥vl]/\cV ws a/\aE K H nl (ws.map V.str)/\aE K H vl us/\Rk2.Ps (aO H) us vw/\vw.length=ws.length/\ws.length<=100/\cz (lk ws vw) a=⇑o/\∀v H',aA H H'->aO H' o v->Q v H'
abbrev BI (K:Md) (t:Adr):Sp:=λvs H Q _=>∃(p sp mk a:Mc) (k:Nat) (A:Ak) (ps:List (Int×Rk2.Tr)) (fb:JK Int) (rg:RG) (v:V) (w:Rw) (b:Bool),vs=[↥p,↥sp,↥mk,.int (k:Int),.bl b]/\A.ps=ps++dN fb/\aE K H p (A.fns.map λf=>V.ref f.fa)/\A.fns≠[]/\A.fns.length<=12/\(∀f∈A.fns,F2.FnAt K H f)/\(∀f∈A.fns,Plr (F2.kds f))/\(A.fns.map (·.name)).Nodup/\TbB K H sp mk A/\A.Ms[k]?=⇑(A.L0++[A.e])/\A.svs[k]?=⇑v/\ge K H ps a v/\aD K H a A.as/\lY A.as fb/\ps.length<=1000/\(∀b∈ps,bh b.2)/\(∀e'∈A.L0++[A.e],cQ e'.vw)/\AkB A/\A.e.F.rs[A.e.r]?=⇑w/\aD K H w.r rg.items/\ft K H rg/\S5 K t.bT H A rg b/\bj K H 13 (A.fns.map λf=>V.ref f.fa)/\bj K H 13 A.svs/\Rk2.Ps (λL v=>dn K H (eR L) v) A.mvs A.Ms/\A.Ms.length<=100/\∀H',Q (.bl true) H'
abbrev Ep (K:Md):Sp:=λvs H Q _=>∃(a:Mc) (ks:List Str),vs=[↥a]/\K13.RowsAt K H a ks/\Plr ks/\ks.length<=1000/\∀d H',aA H H'->H d=none->H' d=⇑(.dK [])->Q ↥d H'
abbrev CM (K:Md):Sp:=λvs H Q _=>∃(a d:Mc) (ks:List Str),vs=[↥a,↥d]/\K13.RowsAt K H a ks/\Plr ks/\ks.length<=1000/\H d=⇑(.dK [])/\∀l o bs H',aA (upd H d (.frz o (.dK []))) H'->H l=none->H' l=⇑(.lst bs)->bs.length=ks.length->(∀k,k+1<ks.length->bs[k]?=⇑(.int ((k+1:Nat):Int)))->Q ↥l H'
abbrev DZ (K:Md):Sp:=λvs H Q _=>∃(a:Mc) (ks:List Str),vs=[↥a]/\K13.RowsAt K H a ks/\Plr ks/\ks.length<=1000/\∀l H',aA H H'->H l=none->K13.FoundN H' l ks ks.length->Q ↥l H'
abbrev EK (K:Md):Sp:=λvs H Q _=>∃(mv cv:V) (kA d:Mc) (L:List Lev) (ch:List (Str×Nat)) (kl:List V) (Kn:List (List (JK Rk2.Tr))) (g:Int->JK Rk2.Tr),vs=[mv,cv,↥kA,↥d]/\gW K H (eR L) mv/\cX K H ch cv/\aE K H kA kl/\Rk2.Ps (gy K H) kl Kn/\NwA H d g/\HldOk L ch Kn/\∀H',aA H H'->Q (.bl (gG g L ch Kn)) H'
abbrev Eo (K:Md):Sp:=λvs H Q _=>∃(pl fa:Mc) (Fs:List F2.Fd) (F:F2.Fd) (r:Nat) (c:Rw),vs=[↥pl,↥fa]/\aE K H pl (Fs.map λF=>V.ref F.fa)/\(∀F∈Fs,F2.FnAt K H F)/\(Fs.map (·.name)).Nodup/\F∈Fs/\aD K H fa [.str F.name,.int (r:Int)]/\F.rs[r]?=⇑c/\Fs.length<=10/\∀H',aA H H'->Q ↥c.r H'
abbrev Gh (K:Md):Sp:=λvs H Q _=>∃(l:Mc) (us:List V) (k:Int) (w:Str) (ch ch':List (Str×Nat)),vs=[↥l,.int k,.str w]/\H l=⇑(.lst us)/\Rk2.Ps (cy K H) us ch/\Nx w k ch ch'/\ch.length<=5/\∀l' us' H',aA H H'->H' l'=⇑(.lst us')->(l'=l\/H l'=none)->Rk2.Ps (cy K H') us' ch'->Q ↥l' H'
abbrev C1 (K:Md):Sp:=λvs H Q _=>∃(pl wl:Mc) (F:Fx) (k:Int) (dp:Bool),vs=[↥pl,↥wl,.int k,.bl dp,.int (F.own:Int)]/\Pg5 K H pl wl F/\∀l us H',aA H H'->H l=none->H' l=⇑(.lst us)->Rk2.Ps (cy K H') us ((dX F dp k).map bY)->Q ↥l H'
abbrev BW (K:Md):Sp:=λvs H Q _=>∃(r nl vl cl wl bl:Mc) (on:Nat) (k:Int) (fst:Bool) (rg:RG) (ws:List Str) (us:List V) (vw:List (JK Rk2.Tr)) (c0 c1:Int) (w0 w1:Str) (wt:List V) (bs:List Int),vs=[↥r,↥nl,↥vl,.int k,.bl fst,↥cl,↥wl,↥bl,.int (on:Int)]/\aD K H r rg.items/\ft K H rg/\qt ws k rg/\(∀y g p as,rg=.call y g p as->as.length<=20)/\aE K H nl (ws.map V.str)/\aE K H vl us/\Rk2.Ps (aO H) us vw/\vw.length=ws.length/\ws.length<=20/\ee vw/\cQ vw/\aE K H cl [.int c0,.int c1]/\aE K H wl (.str w0::.str w1::wt)/\K12.Nm w0/\K12.Nm w1/\aE K H bl (bs.map V.int)/\iG bs/\bs.length=8/\∀p as fb H',aA H H'->aD K H' p as->Ac5 K H' on k fst as fb->Q ↥p H'
abbrev FD (K:Md):Sp:=λvs H Q _=>∃(r nl vl a:Mc) (on:Nat) (k:Int) (fst:Bool) (rg:RG) (ws:List Str) (us:List V) (vw:List (JK Rk2.Tr)) (as:List V) (fb:JK Int) (ds:List C5),vs=[↥r,↥nl,↥vl,.int k,.bl fst,↥a]/\aD K H r rg.items/\ft K H rg/\qt ws k rg/\aD K H a as/\Ac5 K H on k fst as fb/\aE K H nl (ws.map V.str)/\aE K H vl us/\Rk2.Ps (aO H) us vw/\vw.length=ws.length/\ws.length<=20/\ee vw/\cQ vw/\fC (lk ws vw) rg=⇑ds/\∀b H',aA H H'->Rt5 K H' k fst ds as b->Q (.bl b) H'
abbrev FX (K:Md):Sp:=λvs H Q _=>∃(pl:Mc) (c:Int) (Fs:List F2.Fd),vs=[↥pl,.int c]/\aE K H pl (Fs.map λF=>V.ref F.fa)/\Fs.length=3/\∀l (Gs:List F2.Fd) H',aA H H'->H' l=⇑(.lst (Gs.map λF:F2.Fd=>V.ref F.fa))->Gs.Perm Fs->Q ↥l H'
abbrev Fk (K:Md):Sp:=λvs H Q _=>∃(cl wl:Mc) (cs:List Int) (w0 w1 w2:Str) (own:Nat),vs=[↥cl,↥wl,.int (own:Int)]/\aE K H cl (cs.map V.int)/\10<=cs.length/\aE K H wl [.str w0,.str w1,.str w2]/\[w0,w1,w2].Nodup/\(∀w∈[w0,w1,w2],K12.Nm w)/\own<2/\∀p pl nl n1 n2 n3 (F:Fx) H',aA H H'->aD K H' p [↥pl,↥nl]->F.own=own->[F.a.name,F.b.name,F.c.name]=[w0,w1,w2]->Pg5 K H' pl wl F->NmA K H' nl n1 n2 n3 F->Q ↥p H'
abbrev CJ (K:Md):Sp:=λvs_ H Q _=>∃(pl nl wl ch vl n1 n2 n3:Mc) (F:Fx) (k:Int) (us vs:List V) (fs0:List (F2.Fd×Nat)) (G:F2.Fd) (r:Nat) (c:Rw) (rg:RG) (Vs0:List (List (JK Rk2.Tr))) (vw:List (JK Rk2.Tr)) (Kn:List (List (JK Rk2.Tr))),vs_=[↥pl,↥nl,↥wl,↥ch,.int k,↥vl]/\Pg5 K H pl wl F/\NmA K H nl n1 n2 n3 F/\H ch=⇑(.lst us)/\Rk2.Ps (cy K H) us ((fs0++[(G,r)]).map bY)/\(∀x∈fs0++[(G,r)],x.1∈[F.a,F.b,F.c])/\G.rs[r]?=⇑c/\aD K H c.r rg.items/\aE K H vl vs/\Rk2.Ps (dA H) vs (Vs0++[vw])/\vw.length=(F2.nms G).length/\Vs0.map List.length=fs0.map (λx=>(F2.nms x.1).length)/\fs0.length<=3/\Kb5 K H F G rg fs0 Vs0 vw k Kn/\∀l ks H',aA H H'->H' l=⇑(.lst ks)->Rk2.Ps (dA H') ks Kn->Q ↥l H'
abbrev Hd (K:Md):Sp:=λvs H Q _=>∃(pl wl ch:Mc) (c k cm:Int) (F:Fx) (us:List V) (fs0:List (F2.Fd×Nat)) (G:F2.Fd) (r:Nat),vs=[↥pl,.int c,↥ch,.int k,.int cm]/\Pg5 K H pl wl F/\H ch=⇑(.lst us)/\Rk2.Ps (cy K H) us ((fs0++[(G,r)]).map bY)/\G∈[F.a,F.b,F.c]/\r<G.rs.length/\(k=1->1<G.rs.length)/\fs0.length<=3/\∀p sv cv kd r' H',aA H H'->H' p=⇑(.tup [sv,cv])->SpN H H' kd sv->r'<G.rs.length->cX K H' ((fs0++[(G,r')]).map bY) cv->Q ↥p H'
abbrev x8 (K:Md):List V->Hp->VK->Prop:=λxs H Q=>∃p ys,xs=[↥p]/\(aE K H p ys\/aD K H p ys)/\∀l,H l=none->Q ↥l (upd H l (.lst ys))
def CT {X:Cx} {K:Md} {tg l:Expr} (f:Md->TI) (h:X.K=K) (p:PI X tg l (f X.K)):PI X tg l (f K):=h ▸ p
abbrev sp_law (K:Md):Sp:=λvs H Q _=>∃(a:Mc) (ns:List Int),vs=[↥a]/\aE K H a (ns.map V.int)/\ns.length<=63/\∀H',Q (.bl true) H'
def ly {W:TS} {D:cU} {σ:L2.St} {H:Hp} (f:let S:=σ; W D S H):W D σ H:=f
def lx {X:Cx} {L:List Stmt} {R:TS->Prop} (f:let XX:=X; ∃t,aY XX L t/\R t):∃t,aY X L t/\R t:=f
def uV {X:Cx} {K:Md} {e:Expr} (f:Md->TE) (h:X.K=K) (p:PE X e (f X.K)):PE X e (f K):=h ▸ p
end
end K45
local macro_rules|`($a>=>$b)=>`(L2.aB $a $b rfl)|`($f<$>$a<*>$b)=>`(@L2.aJ _ _ _ _ _ _ _ _ $f $a $b)
local macro_rules|`(~~~$a)=>`(@L2.aK _ _ _ (@L2.af _ _ _ _ $a))
namespace K45
open PySem L2 K12
section
variable {P:Program} {w:World} {K:Md} {mg:Str->JK Ma} {base:Heap} {t:Adr}
def Fn:FnScope ["names"] ["names"] (az sW):=by walk_at "s"
def uH (T:Txt K mg t):FnOk P w K mg base CX0 1 t.yS t.zW ["names"] (K12.sp_each_once K):=by
 refine T.each_once.F.ok Fn (λvs H Q E h=>?_) (λcdv A outer s H vs Q E hr h=>?_)
 . let#[_,_,rfl,_]:=h;rfl
 . let#[p0,ss,rfl,hS,hl,q]:=h;show#[_,(aH (@af _ _ _ _ (br (J2 rfl) 0x0 T.b_list iM ((br (sY rfl) 0x0 T.b_dict kW ((dg (N':=["name"]) (js:=[none]) (by kernel_rfl) rfl (di (a8 0)) dD (λ_ _ _ _=>(bD (i:=0) (show(["name"]:List Str).Nodup by decide +kernel) rfl 0x8 (.inr rfl))) (λ_ _ _ _=>dC) (λ_ _ _ _=>(aj (a8 0>=>dr>=>aC))))>=>aC))>=>aC))) ag),?_];show#[5,p0,rfl,#[_,hS],λp hp=>jT (xs:=ss.map V.str) (by rw[JE]; lia) (λi acc H2=>i<=ss.length/\aA H H2/\H2 p=⇑(.lst acc)/\∃ps:List Mc,acc=ps.map V.ref/\Paired (λa (kv:aI×V)=>aD K H2 a [kV kv.1,kv.2]) ps (cY (ss.take i))) #[Jm _,aA.new hp,aG,[],rfl,.nil] ?_ ?_ ?_]
   . rintro i acc H2 hi ⟨hi',s2,h2,ps,rfl,hps⟩;show#[h2,?_,s2.seq hS];have:=Paired.length hps;rw[JE,this];unfold cY;rw[JE,Jk]
     lia
   . rintro i x acc H2 hx ⟨hi',s2,h2,ps,rfl,hps⟩;have hi:i<ss.length:=by have:=(JH.mp hx).1;rw[JE] at this;exact this
     rw[JS] at hx;have hx:V.str ss[i]=x:=by simpa [hi] using hx
     subst hx;show#[5,(by show 2<=sizeLine; decide),λa ha=>?_];have hap:a≠p:=λz=>by rw[z,h2] at ha; cases ha
     have e:(upd H2 a (.tup [V.str ss[i],V.bl true])) p=⇑(.lst (ps.map V.ref)):=by rw[am hap.symm]; exact h2
     show#[e,hi,?_,aG,ps++[a],by rw[JL]; rfl,?_]
     . exact(s2\(aA.new ha)).upd hp
     . have e2:cY (ss.take (i+1))=cY (ss.take i)++[(Sum.inr ss[i],V.bl true)]:=by unfold cY;rw[KE,JL];simp [hi]
       rw[e2];refine Paired.snoc (Paired.mapP hps λb kv z=>sqT_lst ((aA.new ha)<*z) e) ?_;exact aD.of (by rw[am hap]; exact aG)
   . rintro acc H2 ⟨hi',s2,h2,ps,rfl,hps⟩;have e0:ss.take (ss.map V.str).length=ss:=by rw[JE]; exact Jw
     rw[e0] at hps;show#[p,ps,cY ss,rfl,aE.of h2,hps,by unfold cY; rw[JE]; lia,λd hd=>?_];rw[Gd];show#[d,cY (onceL ss),rfl,aG,λl hl'=>?_];rw[FO];exact q l _ ((s2\(aA.new hd)).trans (aA.new hl')) (s2.free ((aA.new hd).free hl')) aG
def EL:FnScope ["row"] ["row"] (az qL):=by walk_at "s"
def FQ (T:Txt K mg t):FnOk P w K mg base CX0 1 t.yV t.za ["row"] (K12.sp_gives K):=by
 refine T.gives.F.ok EL (λvs H Q E h=>?_) (λcdv A outer s H vs Q E hr h=>?_)
 . let#[_,_,_,_,rfl,_]:=h;rfl
 . let#[r,xs,g,as,rfl,hr,hrow,q]:=h;show#[_,(aH (@af _ _ _ _ (@jR _ _ _ _ _ _ _ _ (aS fT (iT K (a8 0)) (jk T.J9) (by with_unfolding_all rfl)) (iT K (a8 0)) fi)) ag),?_];let#[kd,h0,hc]:=F8 hrow;show#[5,r,xs,19,hr,h0,t.su,giving.map V.str,rfl,.inr (T.JB H),rfl,IZ,5,?_];rcases hc with⟨x,rfl,e,h1⟩|⟨rfl,e⟩
   . exact aL e #[5,r,xs,19,hr,h1,q]
   . exact aX (Hs e) q
def BQ:FnScope ["row"] ["row"] (az qq):=by walk_at "s"
def Gp (T:Txt K mg t):FnOk P w K mg base CX0 1 t.yP t.zT ["row"] (K12.sp_atoms_of K):=by
 refine T.atoms_of.F.ok BQ (λvs H Q E h=>?_) (λcdv A outer s H vs Q E hr h=>?_)
 . let#[_,_,_,_,rfl,_]:=h;rfl
 . let#[r,xs,g,as,rfl,hr,hrow,hl,q]:=h;show#[_,(aH (ai (aS ak (iT K (a8 0)) aU (aN _)) (~~~(br jn 0x0 T.b_list iM ((iT K (a8 0))>=>aC))) ag) (~~~(dg (N':=["place","row"]) (js:=[none,some 0]) (by kernel_rfl) rfl (kJ (dj IE (jk T.J8) (iT K (a8 0)) (λ_ _=>rfl))) dD (λ_ _ _ _=>(bD (i:=0) (show(["place","row"]:List Str).Nodup by decide +kernel) rfl 0x8 (.inr rfl))) (λ_ _ _ _=>dC) (λ_ _ _ _=>(iX K (a8 1) (a8 0)))))),?_];let#[kd,h0,hc]:=CN hrow;show#[5,r,xs,19,hr,h0,13,?_];rcases hc with⟨rfl,p,h3,hp⟩|⟨hne,pl,hk,hpl,hat⟩
   . exact aL (JG rfl) #[5,r,xs,19,hr,h3,p,as,rfl,.inr hp,λl hl=>q l _ (aA.new hl) hl aG]
   . refine aX (λh=>hne (V.str.inj (aq h))) ?_;show#[5,r,xs,19,hr,h0,t.sw,tabl,19,T.JC,hk,λa ha=>?_];show#[a,rfl,#[_,ha],λp hp=>vA (xs:=pl.map V.int) (by rw[JE]; lia) (λi acc H2=>acc=as.take i/\H2=upd H p (.lst acc)) #[7] ?_ ?_ ?_]
     . rintro i acc H2 hi ⟨rfl,rfl⟩;show#[aG,by rw[Jk]; lia,(aA.new hp)<*ha]
     . rintro i x acc H2 hx ⟨rfl,rfl⟩;have hi:i<as.length:=by
         have:=(JH.mp hx).1;rw[JE] at this
         lia
       let#[p1,hp1,hp2]:=hat i as[i] (by simp [hi]);rw[JS,hp1] at hx;have hx:V.int p1=x:=↑hx
       subst hx;show#[21,r,xs,19,(aA.new hp)<*hr,hp2,aG,?_,oE];rw[KE];simp [hi]
     . rintro acc H2 ⟨rfl,rfl⟩;have e:(as.take (pl.map V.int).length)=as:=by rw[JE,hpl]; exact Jw
       exact q p _ (aA.new hp) hp (by rw[aG,e])
def Bx:FnScope ["row"] ["row"] (az rF):=by walk_at "s"
def IH (T:Txt K mg t):FnOk P w K mg base CX0 2 t.z7 t.A5 ["row"] (K12.sp_reads K):=by
 have Qj:=uH (P:=P) (w:=w) (base:=base) T;have Qs:=Gp (P:=P) (w:=w) (base:=base) T;refine T.reads.F.ok Bx (λvs H Q E h=>?_) (λcdv A outer s H vs Q E hr h=>?_)
 . let#[_,_,_,_,rfl,_]:=h;rfl
 . let#[r,xs,g,as,rfl,hrw,hrow,hl,hat,q]:=h;show#[_,(aH (@af _ _ _ _ (cD T.each_once Qj hr ((dg (N':=["atom"]) (js:=[none]) (by kernel_rfl) rfl (di (cD T.atoms_of Qs hr (a8 0>=>aC))) dD (λ_ _ _ _=>(bD (i:=0) (show(["atom"]:List Str).Nodup by decide +kernel) rfl 0x8 (.inr rfl))) (λ_ _ _ _=>(rN (jE (bz (show bX _ (.builtin "isinstance") (Gf K) from oT) 0x0 T.b_isinstance nV (a8 0>=>(nr (v:=V.ty "str") rfl T.b_str p7 rfl)>=>aC))))) (λ_ _ _ _=>(a8 0)))>=>aC))) ag),?_];show#[5,r,xs,g,as,rfl,hrw,hrow,hl,λl0 H1 s1 n1 e1=>?_];show#[l0,rfl,#[_,aE.of e1],λp hp=>jT (xs:=as) ∅ (λi acc H2=>acc=(strsOf (as.take i)).map V.str/\H2=upd H1 p (.lst acc)) #[7] ?_ ?_ ?_]
   . rintro i acc H2 hi ⟨rfl,rfl⟩;show#[aG,?_,(aA.new hp).seq (aE.of e1)];have:=pH (as.take i);rw[JE];rw[Jk] at this
     lia
   . rintro i x acc H2 hx ⟨rfl,rfl⟩;have hi:i<as.length:=(JH.mp hx).1;have e2:strsOf (as.take (i+1))=strsOf (as.take i)++strsOf [x]:=by rw[KE,hx,HE];rfl
     rcases hat x (JM hx) with⟨s,rfl,hn⟩|⟨z,rfl⟩
     . show#[40,true,rfl,.str _,13,?_];show#[5,aG,?_,oE];rw[e2,JL];rfl
     . show#[40,false,rfl,.int _,13,?_];show#[?_,?_]
       . rw[e2,D1,K5]
       . rfl
   . rintro acc H2 ⟨rfl,rfl⟩;rw[Jw];have hle:=pH as;show#[p,strsOf as,rfl,aE.of aG,∅,λl H3 s3 n3 e3=>q l H3 ((s1\(aA.new hp)).trans s3) (s1.free ((aA.new hp).free n3)) e3]
def oP:FnScope ["function","found","row","given"] ["function"] (az km):=by walk_at "s"
def Dj (T:Txt K mg t):FnOk P w K mg base CX0 3 t.yz t.A3 ["function"] (K12.sp_names_of K):=by
 have Qj:=uH (P:=P) (w:=w) (base:=base) T;have Qt:=FQ (P:=P) (w:=w) (base:=base) T;have Qu:=IH (P:=P) (w:=w) (base:=base) T;refine T.names_of.F.ok oP (λvs H Q E h=>?_) (λcdv A outer s H vs Q E hr h=>?_)
 . let#[_,_,_,rfl,_]:=h;rfl
 . skip
   refine lx ?_;intro XX;refine(let W2:TS:=_; have hW2:aY XX ((aV km).drop 2) W2:=(~~~(cD T.each_once Qj hr (a8 1>=>aC))); ?_);refine(let W1:TS:=_; have hW1:aY XX ((aV km).drop 1) W1:=(aH (cf PassesOwn.never rfl (kJ (iT K (a8 0))) (bD (i:=2) oP.nd rfl 0x8) (aH (pS 3 oP.nd (cD T.gives Qt hr (a8 2>=>aC))) (aH (ai (fW (iV (a8 3))) (@aK _ _ _ (@du _ _ _ _ (cq Jc Jt Ju gF (a8 1) (a8 3>=>aC)) 0x0)) ag) (@aK _ _ _ (@du _ _ _ _ (cq Jc PySem.F.slot_list_extend PySem.F.type_list_extend Ac (a8 1) ((cD T.reads Qu hr (a8 2>=>aC))>=>aC)) 0x0))))) hW2); ?_);let#[f,ps,ds,rfl,hf,q]:=h;show#[_,(aH (pS 1 oP.nd (br jn 0x0 T.b_list iM ((iT K (a8 0))>=>aC))) hW1),?_];let#[n,b,pp,rr,hF,hP,hR]:=hf.fn;show#[5,f,35,hF,rfl,pp,5,.inr hP,λl hl=>?_];show#[5,f,35,(aA.new hl)<*hF,rfl,?_];show#[rr,rfl,#[_,(aA.new hl)<*hR],Im (xs:=ds.map λd=>V.ref d.r) (λi σ H2=>aA H H2/\∃v1 v2 fs,σ=[⇑↥f,⇑↥l,v1,v2]/\H2 l=⇑(.lst (List.map V.str fs))/\onceL fs=onceL (ps++(ds.take i).flatMap rowStrs)/\fs.length<=100+11 * i) #[aA.new hl,4,ps,rfl,aG,by simp,by have:=hf.pl; lia] ?_ ?_ ?_]
   . rintro i σ H2 hi ⟨s2,_⟩;exact s2<*hR
   . rintro i x σ H2 hx ⟨s2,v1,v2,fs,rfl,h2,ho,hlen⟩;have hi:i<ds.length:=by have:=(JH.mp hx).1;rw[JE] at this;exact this
     rw[JS] at hx;have hx:V.ref ds[i].r=x:=by simpa [hi] using hx
     subst hx;have hd:=hf.rows ds[i] (KL hi);have hds:=hf.dl;have ef:(ds.take (i+1)).flatMap rowStrs=(ds.take i).flatMap rowStrs++rowStrs ds[i]:=by rw[KE,List.flatMap_append];simp [hi]
     have hol:=HW (strsOf ds[i].as);have hsl:=pH ds[i].as;have hal:=hd.len;let#[xs,hr1,hr2]:=(hd*>s2).row;show#[5,ds[i].r,xs,9,hr1,hr2,?_];show#[21,?_];cases hg:ds[i].gx with
     | none =>
       refine lR #[5,.inl #[6,aE.of h2],5,ds[i].r,xs,9,hr1,hr2,hd.len,hd.ats,λl4 H4 s4 n4 e4=>?_];show#[l,l4,19,s4 _ _ h2,e4,bt (by rw[JE,JE]; lia),?_];show#[(s2\s4).upd hl,4,fs++[]++onceL (strsOf ds[i].as),rfl,(by rw[aG,K5,JL]),?_,(by simp only[JF,Kt]; lia)];rw[xJ ho,ef,Jn];unfold rowStrs;rw[hg];rfl
     | some x =>
       refine rV #[5,.inl #[6,aE.of h2],5,l,19,h2,lt_line' (by rw[JE]; lia),?_];have s3:aA H (upd H2 l (.lst (List.map V.str fs++[V.str x]))):=s2.upd hl;let#[xs',hr1',hr2']:=(hd*>s3).row;show#[5,.inl #[6,aE.of aG],5,ds[i].r,xs',9,hr1',hr2',hd.len,hd.ats,λl4 H4 s4 n4 e4=>?_];show#[l,l4,19,s4 _ _ aG,e4,bt (by simp only[JF,JE,Jo,Kt]; lia),?_];show#[(s3\s4).upd hl,4,fs++[x]++onceL (strsOf ds[i].as),rfl,(by rw[aG,JL,JL]; rfl),?_,(by simp only[JF,Jo,Kt]; lia)];rw[xJ ho,ef,Jn];unfold rowStrs;rw[hg];rfl
   . rintro σ H2 ⟨s2,v1,v2,fs,rfl,h2,ho,hlen⟩;rw[JE,Jw] at ho;rw[JE] at hlen;have hds:=hf.dl;show#[5,l,fs,rfl,aE.of h2,∅,λl3 H3 s3 n3 e3=>q l3 H3 (s2\s3) (s2.free n3) ?_];rw[e3,ho];rfl
end
end K45
namespace K45
open PySem L2 K13
section
variable {P:Program} {w:World} {K:Md} {mg:Str->JK Ma} {base:Heap} {t:Adr}
def lU:FnScope ["rows","opened","begins","k","row"] ["rows"] (az nJ):=by walk_at "s"
def Dw (T:Txt K mg t):FnOk P w K mg base CX0 1 t.yQ t.zU ["rows"] (Ep K):=by
 refine T.begins_of.F.ok lU (λvs H Q E h=>?_) (λcdv A outer s H vs Q E hr h=>?_)
 . let#[_,_,rfl,_]:=h;rfl
 . skip
   refine lx ?_;intro XX;refine(let W2:TS:=_; have hW2:aY XX ((aV nJ).drop 2) W2:=(aH (cf PassesOwn.never rfl (wz rfl T.b_enumerate (a8 0>=>aC)) (dI rfl (bg (bD (i:=3) lU.nd rfl 0x8) (bg (bD (i:=4) lU.nd rfl 0x8) dL))) (@aK _ _ _ (ai (aS fT (iT K (a8 4)) (aj (aU>=>aU>=>aC)) (by with_unfolding_all rfl)) dZ (@aK _ _ _ (ai (aS ak (iT K (a8 4)) aU (aN _)) dZ (@aK _ _ _ (ai (aS ak (iT K (a8 4)) aU (aN _)) dZ ag))))))) (~~~(a8 2))); ?_);let#[a,ks,rfl,hR,w,hn,q]:=h;show#[_,(aH (pS 1 lU.nd (bQ aC)) (aH (pS 2 lU.nd gX) hW2)),?_];show#[fA,λol hol=>λd hd=>?_];let#[rs,e1,e2,e3]:=hR.ex;have s0:aA H (upd (upd H ol (.lst [])) d (.dK [])):=(aA.new hol)\(aA.new hd);show#[5,a,rfl,#[_,s0<*e1],vR (xs:=rs.map V.ref) (λi σ H2=>aA H H2/\(∃v3 v4,σ=[⇑↥a,⇑↥ol,⇑↥d,v3,v4])/\H2 d=⇑(.dK [])) #[s0,#[9],aG] ?_ ?_ ?_]
   . rintro i σ H2 hi ⟨s2,_⟩;exact s2<*e1
   . rintro i x σ H2 b hx ⟨s2,⟨v3,v4,rfl⟩,hg⟩ hb;have hi:i<rs.length:=by have:=(JH.mp hx).1;rw[JE] at this;exact this
     rw[JS] at hx;have hx:V.ref rs[i]=x:=by simpa [hi] using hx
     subst hx;let#[rest,hrow]:=e3 i rs[i] (by simp [hi]);have sb:=aA.new (o:=.tup [.int i,.ref rs[i]]) hb;have s3:=s2\sb;show#[b,5,aD.of aG,1613,rs[i],35,s3<*hrow,at0,aZ,λtw htw=>#[tw,[V.str "if",V.str "while"],rfl,.inr (aD.of aG),29,?_]];have st:=aA.new (o:=.tup [V.str "if",V.str "while"]) htw;have s4:=s3\st;have nn:=w.ne (i:=i) ∅;exact aX (λz=>(w.p i ∅).1 ((inO _).symm.trans z)) #[5,rs[i],35,s4<*hrow,at0,13,aX (λz=>nn.1 0xC) #[5,rs[i],35,s4<*hrow,at0,13,aX (λz=>nn.2 0xC) #[s4,#[9],st _ _ (sb _ _ hg)]]]
   . rintro σ H2 ⟨s2,⟨v3,v4,rfl⟩,hg⟩;show#[5,q d H2 s2 ((aA.new hol).free hd) hg]
def ie:FnScope ["rows","begins","ends","k","begin","behind","follower","kind"] ["rows","begins"] (az kq):=by walk_at "s"
def Au (T:Txt K mg t):FnOk P w K mg base CX0 1 t.yU t.zY ["rows","begins"] (CM K):=by
 refine T.firsts_behind.F.ok ie (λvs H Q E h=>?_) (λcdv A outer s H vs Q E hr h=>?_)
 . let#[_,_,_,rfl,_]:=h;rfl
 . skip
   refine lx ?_;intro XX;refine(let W4:TS:=_; have hW4:aY XX ((aV kq).drop 4) W4:=(~~~(pv 5)); ?_);refine(let W2:TS:=_; have hW2:aY XX ((aV kq).drop 2) W2:=(aH (pS 5 ie.nd (jo<$>(bQ (fi>=>aC))<*>(bz qv 0x0 T.b_len cL (pv 0>=>aC)))) (aH (cf PassesOwn.never rfl (F6 rfl T.b_range ((i4<$>(bz qv 0x0 T.b_len cL (pv 0>=>aC))<*>aF)>=>bO bP aF>=>bO bP aF>=>aC)) (bD (i:=3) ie.nd rfl 0x8) (aH (pS 6 ie.nd (cM<$>pv 3<*>aF)) (aH (pS 7 ie.nd (dj lA (dj lA (pv 0) (pv 6) (λ_ _=>rfl)) aF (λ_ _=>rfl))) (@aK _ _ _ (ai (lq ak (pv 7) aU (aN _)) dZ (@aK _ _ _ (ai (@PW.pt _ _ _ (dJ (lq ak (pv 7) aU (aN _)) (dY HP))) dZ (@aK _ _ _ (ai (lq ak (pv 7) aU (aN _)) dZ (@aK _ _ _ (fJ (pv 6) (gO (pv 5) (pv 3) gN)))))))))))) hW4)); ?_);let#[a,d,ks,rfl,hR,w,hn,hd,q]:=h;show#[_,(aH (pS 2 ie.nd gX) (aH (cf PassesOwn.never rfl (pO (pv 1)) (dI rfl (bg (bD (i:=3) ie.nd rfl 0x8) (bg (bD (i:=4) ie.nd rfl 0x8) dL))) dZ) hW2)),?_];refine λed hed=>?_;have hde:d≠ed:=λz=>by rw[<- z,hd] at hed; cases hed
   show#[5,d,[],rfl,.inl #[aA.new hed _ _ hd,λo=>?_]];have sF:aA (upd H d (.frz o (.dK []))) (upd (upd H ed (.dK [])) d (.frz o (.dK []))):=λb u h=>by
     by_cases hb:b=d
     . subst hb;rw[aG] at h ⊢;exact h
     . rw[am hb] at h ⊢;rw[am (λz=>by rw[z,hed] at h; cases h)];exact h
   have hF:(upd H d (.frz o (.dK []))) d=⇑(.frz o (.dK [])):=aG;have hRF:RowsAt K (upd H d (.frz o (.dK []))) a ks:=hR.frz hd;have qF:∀l bs H',aA (upd H d (.frz o (.dK []))) H'->(upd H d (.frz o (.dK []))) l=none->H' l=⇑(.lst bs)->bs.length=ks.length->(∀k,k+1<ks.length->bs[k]?=⇑(.int ((k+1:Nat):Int)))->Q ↥l H':=λl bs H' h1 h2=>q l o bs H' h1 (by rw[am (λz=>by rw[z,hF] at h2; cases h2)] at h2; exact h2);generalize upd H d (.frz o (.dK []))=HF at sF hF hRF qF;refine qu (λi σ H2=>aA HF H2/\∃v3 v4,σ=[⇑↥a,⇑↥d,⇑↥ed,v3,v4,none,none,none]) #[sF,9] ?_ ?_ ?_
   . rintro i σ H2 hi ⟨s2,_⟩;exact s2 _ _ hF
   . intro i kv σ H2 b hkv;simp at hkv
   . rintro σ H2 ⟨s2,v3,v4,rfl⟩;let#[rs,r1,r2,r3]:=hRF.ex;have rl:(rs.map V.ref).length=ks.length:=by rw[JE,r2]
     show#[cB,λnl hnl=>#[5,a,5,.inr ((s2\(aA.new hnl))<*r1),nl,19,aG,∅,by rw[rl]; lia,by rw[rl]; exact bt (by simp; lia),λbl hbl=>?_]];have s3:=(s2\(aA.new (o:=.lst [V.non]) hnl)).trans (aA.new (o:=.lst (List.replicate (((rs.map V.ref).length:Int).toNat) [V.non]).flatten) hbl);have hbF:HF bl=none:=s2.free ((aA.new hnl).free hbl);show#[5,a,5,.inr (s3<*r1),309,(ks.length:Int) - 2,-1,by rw[rl],#[∅,∅,∅,∅],?_];rw[show(((ks.length:Int) - 2) - -1).toNat=ks.length - 1 by lia];refine Iy (λi σ H4=>aA HF H4/\∃v3 v4 v6 v7 bs,σ=[⇑↥a,⇑↥d,⇑↥ed,v3,v4,⇑↥bl,v6,v7]/\H4 bl=⇑(.lst bs)/\bs.length=ks.length/\∀k,k+1<ks.length->ks.length - 1 - i<=k->bs[k]?=⇑(.int ((k+1:Nat):Int))) #[s3,65,aG,by rw[rl]; exact Eb _,λk h1 h2=>by lia] ?_ ?_
     . rintro i σ H4 hi ⟨s4,v3,v4,v6,v7,bs,rfl,b4,l4,hb4⟩;obtain⟨k,hk⟩:∃k:Nat,k+2+i=ks.length:=#[ks.length - 2 - i,∅]
       rw[show((ks.length:Int) - 2) - (i:Int)=(k:Int) by lia];show#[83,?_];show jB 6 (V.int ((k:Int)+1)) _ _ _;rw[show((k:Int)+1)=((k+1:Nat):Int) by lia];have nn:=w.ne (i:=k+1) ∅;show#[21,ixk (hRF*>s4) ∅ ∅ #[45,aX (λz=>nn.1 0xC) #[45,aX (λz=>nn.2 0xC) (jN #[45,aX (λz=>nn.2 0xC) #[85,bl,35,b4,(by unfold cT; rw[JR ∅,JR ∅,KA]),s4.upd hbF,65,aG,by rw[KD]; exact l4,λj h1 h2=>?_]])]]];by_cases hj:j=k
       . subst hj;rw[KH ∅]
       . rw[KS (λz=>hj z.symm)];exact hb4 j h1 ∅
     . rintro σ H4 ⟨s4,v3,v4,v6,v7,bs,rfl,b4,l4,hb4⟩;show#[5,qF bl bs H4 s4 hbF b4 l4 λk h=>hb4 k h ∅]
def hX:FnScope ["rows","begins","behind","turns","k","begin","found","row"] ["rows"] (az jX):=by walk_at "s"
def FJ (T:Txt K mg t):FnOk P w K mg base CX0 2 t.zB t.A9 ["rows"] (DZ K):=by
 have Qv:=Dw (P:=P) (w:=w) (base:=base) T;have Qw:=Au (P:=P) (w:=w) (base:=base) T;refine T.ways.F.ok hX (λvs H Q E h=>?_) (λcdv A outer s H vs Q E hr h=>?_)
 . let#[_,_,rfl,_]:=h;rfl
 . skip
   refine lx ?_;intro XX;refine(let W6:TS:=_; have hW6:aY XX ((aV jX).drop 6) W6:=(~~~(pv 6)); ?_);refine(let W4:TS:=_; have hW4:aY XX ((aV jX).drop 4) W4:=(aH (pS 6 hX.nd (bQ aC)) (aH (cf PassesOwn.never rfl (wz rfl T.b_enumerate (pv 0>=>aC)) (dI rfl (bg (bD (i:=4) hX.nd rfl 0x8) (bg (bD (i:=7) hX.nd rfl 0x8) dL))) (@aK _ _ _ (ai (lq fT (dj lA (pv 7) aF (λ_ _=>rfl)) (aj (aU>=>aU>=>aC)) (by with_unfolding_all rfl)) dZ (@aK _ _ _ (ai (lq ak (dj lA (pv 7) aF (λ_ _=>rfl)) aU (aN _)) (@aK _ _ _ (@du _ _ _ _ (cq Jc Jt Ju nR (pv 6) (aj aC>=>aC)) 0x0)) (@aK _ _ _ (ai (fW (F1 (cr hr.units) (pv 4) (pv 3))) dZ (@aK _ _ _ (@du _ _ _ _ (cq Jc Jt Ju nR (pv 6) ((aj ((dj vd (pv 2) (pv 4) (λ_ _=>rfl))>=>aC))>=>aC)) 0x0))))))))) hW6)); ?_);refine(let W2:TS:=_; have hW2:aY XX ((aV jX).drop 2) W2:=(aH (pS 3 hX.nd gX) (aH (cf PassesOwn.never rfl (pO (pv 1)) (dI rfl (bg (bD (i:=4) hX.nd rfl 0x8) (bg (bD (i:=5) hX.nd rfl 0x8) dL))) dZ) hW4)); ?_);let#[a,ks,rfl,hR,w,hn,q]:=h;show#[_,(aH (pS 1 hX.nd (cD T.begins_of Qv hr (pv 0>=>aC))) (aH (pS 2 hX.nd (cD T.firsts_behind Qw hr (pv 0>=>pv 1>=>aC))) hW2)),?_];show#[5,a,ks,rfl,hR,w,hn,λd H1 s1 n1 e1_=>?_];show#[21,a,d,ks,rfl,hR*>s1,w,hn,e1_,λl o bs H2 s2 n2 hb1 hb2 hb3=>?_];have s02:aA H H2:=(s1.upd n1)\s2;have hdF:H2 d=⇑(.frz o (.dK [])):=s2 _ _ aG;refine λtd htd=>?_;show#[5,d,[],rfl,.inr #[o,aA.new htd _ _ hdF,?_]];refine qu (λi σ H3=>aA H2 H3/\(∃v4 v5,σ=[⇑↥a,⇑↥d,⇑↥l,⇑↥td,v4,v5,none,none])/\H3 td=⇑(.dK [])) #[aA.new htd,#[9],aG] ?_ ?_ ?_
   . rintro i σ H3 hi ⟨s3,_⟩;exact s3 _ _ hdF
   . intro i kv σ H2 b hkv;simp at hkv
   . rintro σ H3 ⟨s3,⟨v4,v5,rfl⟩,he⟩;let#[rs,r1,r2,e3]:=hR.ex;show#[fA,λfl hfl=>?_];have s03:=s02\s3;show#[5,a,rfl,#[_,(s03\(aA.new hfl))<*r1],vR (xs:=rs.map V.ref) (λi σ H4=>aA H3 H4/\(∃v4 v5 v7,σ=[⇑↥a,⇑↥d,⇑↥l,⇑↥td,v4,v5,⇑↥fl,v7])/\FoundN H4 fl ks i) #[aA.new hfl,#[17],#[[],aG,rfl,λk v z=>by simp at z]] ?_ ?_ ?_]
     . rintro i σ H4 hi ⟨s4,_⟩;exact(s03\s4).tup r1
     . rintro i x σ H4 b hx ⟨s4,⟨v4,v5,v7,rfl⟩,hF⟩ hb;have hi:i<rs.length:=by have:=(JH.mp hx).1;rw[JE] at this;exact this
       rw[JS] at hx;have hx:V.ref rs[i]=x:=by simpa [hi] using hx
       subst hx;let#[rest,hrow]:=e3 i rs[i] (by simp [hi]);have sb:=aA.new (o:=.tup [.int i,.ref rs[i]]) hb;show#[b,5,aD.of aG,1613,rs[i],35,(s03\(s4\sb))<*hrow,at0,aZ,λtw htw=>#[tw,[V.str "else",V.str "end"],rfl,.inr (aD.of aG),29,?_]];have s6:=(s4\sb).trans (aA.new (o:=.tup [V.str "else",V.str "end"]) htw);let#[vs,f1,f2,f3]:=(hF*>sb).mono (aA.new (o:=.tup [V.str "else",V.str "end"]) htw);generalize upd (upd H4 b (.tup [.int i,.ref rs[i]])) tw (.tup [V.str "else",V.str "end"])=H6 at s6 f1 f3 ⊢;have s06:=s03\s6;have fin:∀{H7:Hp} {v:V} {oo:JK (List Nat)} (u4 u5 u7:JK V),aA H6 H7->Due ks i oo->gM H7 v oo->aA H3 (upd H7 fl (.lst (vs++[v])))/\(∃v4 v5 v7,([⇑↥a,⇑↥d,⇑↥l,⇑↥td,u4,u5,⇑↥fl,u7]:St)=[⇑↥a,⇑↥d,⇑↥l,⇑↥td,v4,v5,⇑↥fl,v7])/\FoundN (upd H7 fl (.lst (vs++[v]))) fl ks (i+1):=λu4 u5 u7 s7 hd hv=>#[(s6\s7).upd hfl,#[17],FoundN.push (s7 _ _ f1) f2 (λk v z=>by let#[o',d',y]:=f3 k v z; show#[o',d',y*>s7]) hd hv]
       have pi_:=w.p i ∅;refine aX (λz=>pi_.2 ((inE _).symm.trans z)) #[5,rs[i],35,s06<*hrow,at0,13,?_];by_cases hbk:kd ks i="back"
       . exact aL (JG (JW V.str hbk)) #[5,.inl #[6,aE.of f1],fA,λp hp=>#[fl,19,aA.new hp _ _ f1,lt_line' ∅,fin _ _ _ (aA.new hp) (.back hbk) #[p,rfl,aG]]]
       have hlast:i+1<ks.length:=by
         rcases Nat.lt_or_ge (i+1) ks.length with z|z
         . exact z
         . exact absurd (w.l i ∅) hbk
       exact aX (λz=>hbk 0xC) #[21,td,5,eJ.k (k:=Sum.inl (i:Int)) (s6 _ _ he),5,aX (λz=>by cases z) #[5,.inl #[6,aE.of f1],21,l,35,aE.of ((s3\s6) _ _ hb1),bf (hb3 i hlast),cB,λp hp=>#[fl,19,aA.new hp _ _ f1,lt_line' ∅,fin _ _ _ (aA.new hp) (.one pi_.2 hbk pi_.1 (w.beh hlast)) #[p,rfl,aG]]]]
     . rintro σ H4 ⟨s4,⟨v4,v5,v7,rfl⟩,hF⟩;rw[JE,r2] at hF;show#[5,q fl H4 (s03\s4) (s03.free hfl) hF]
end
end K45
namespace K45
open PySem L2 Gx Fl F2
section
variable {P:Program} {w:World} {K:Md} {mg:Str->JK Ma} {base:Heap} {t:Adr}
def ot:FnScope ["self","program","k","function"] ["self","program"] (az nt):=by walk_at "s"
def DL (T:Txt K mg t):FnOk P w K mg base CX0 4 t.yE t.zG ["self","program"] (Bl K t):=by
 have Qx:=Dj (P:=P) (w:=w) (base:=base) T;have Qy:=FJ (P:=P) (w:=w) (base:=base) T;refine T.yC.F.ok ot (λvs H Q E h=>?_) (λcdv A outer s H vs Q E hr h=>?_)
 . let#[_,_,_,_,rfl,_]:=h;rfl
 . skip
   refine lx ?_;intro XX;refine(let W7:TS:=_; have hW7:aY XX ((aV nt).drop 7) W7:=(@aK _ _ _ (cf PassesOwn.never rfl (J0 rfl T.b_enumerate (a8 1>=>aC)) (dI rfl (bg (bD (i:=2) ot.nd rfl 0x8) (bg (bD (i:=3) ot.nd rfl 0x8) dL))) (aH (fw (cr hr.units) (fD (a8 0)) (iT K (a8 3)) (a8 2) 0x0) (aH (fw (cr hr.units) (fD (a8 0)) (iT K (a8 3)) (iT K (a8 3)) 0x0) (aH (fw (cr hr.units) (fD (a8 0)) (iT K (a8 3)) (iT K (a8 3)) 0x0) (aH (fw (cr hr.units) (fD (a8 0)) (iT K (a8 3)) (iT K (a8 3)) 0x0) (aH (fw (cr hr.units) (fD (a8 0)) (iT K (a8 3)) (cD T.names_of Qx hr (a8 3>=>aC)) 0x0) (@aK _ _ _ (fw (cr hr.units) (fD (a8 0)) (iT K (a8 3)) (cD T.ways Qy hr ((iT K (a8 3))>=>aC)) 0x0))))))))); ?_);let#[x,dx,p,fns,rfl,hx,hS,n0,n12,hE,hPl,nd,q]:=h;show#[_,(aH (dw (a8 0) (iT K (iY K (a8 1) (bO bP aF))) 0x0) (aH (dw (a8 0) gX 0x0) (aH (dw (a8 0) gX 0x0) (aH (dw (a8 0) gX 0x0) (aH (dw (a8 0) gX 0x0) (aH (dw (a8 0) gX 0x0) (d8 (dw (a8 0) gX 0x0) hW7))))))),?_];have fl:(fns.map λf=>V.ref f.fa).length=fns.length:=JE _;have np:0<fns.length:=List.length_pos_iff.mpr n0;obtain⟨fz,hz⟩:∃fz,fns[fns.length - 1]?=⇑fz:=#[fns[fns.length - 1],JU ∅]
   have hzT:=(hE fz (JM hz)).fn;have eL:ay (fns.map λf=>V.ref f.fa) (-1)=⇑(V.ref fz.fa):=by
     unfold ay cT;rw[JI #[],JR (by rw[fl]; lia),Option.bind_some];have:((-1:Int)+((fns.map λf=>V.ref f.fa).length:Int)).toNat=fns.length - 1:=by rw[fl]; lia
     rw[this,JS,hz];rfl
   show#[21,p,35,cZ.seq hS,eL,fz.fa,35,cZ<*hzT,at0,5,x,t.bR,dx,5,hx,T.cw.cl,T.JA,(by show 0<1000; decide),?_];have sx:∀{b:Mc} {o:HO},ers x H b=⇑o->b≠x/\H b=⇑o:=λ{b o} e=>by
     have hb:b≠x:=λz=>by rw[z] at e; unfold ers at e; rw[JR rfl] at e; cases e
     rw[bW hb] at e;show#[hb,e]
   have l1:=fI "last" (V.str fz.name) [] 0 (JN _);intro d0 h0;show#[5,x,t.bR,dx,5,bG aG (Ne.symm (bd h0).1),T.cw.cl,T.AT,∅,?_];have l2:=fI "number_of" ↥d0 _ 1 l1;intro d1 h1;show#[5,x,t.bR,dx,5,bG aG (Ne.symm (bd h1).1),T.cw.cl,T.AS,∅,?_];have l3:=fI "folded_of" ↥d1 _ 2 l2;intro d2 h2;show#[5,x,t.bR,dx,5,bG aG (Ne.symm (bd h2).1),T.cw.cl,T.t9,∅,?_];have l4:=fI "params_of" ↥d2 _ 3 l3;intro d3 h3;show#[5,x,t.bR,dx,5,bG aG (Ne.symm (bd h3).1),T.cw.cl,T.tD,∅,?_];have l5:=fI "rows_of" ↥d3 _ 4 l4;intro d4 h4;show#[5,x,t.bR,dx,5,bG aG (Ne.symm (bd h4).1),T.cw.cl,T.om,∅,?_];have l6:=fI "names_in" ↥d4 _ 5 l5;show#[λσ' G=>∃d:Nat->Mc,σ'=[⇑↥x,⇑↥p,none,none]/\FS t.bR G x dx (eC (V.str fz.name) d) d (λ_=>[])/\(∀i j,i<6->j<6->d i=d j->i=j)/\aA (ers x H) G/\∀k,ers x H (d k)=none,?_,?_]
   . intro d5 h5;let#[nx0,z0]:=bd h0;have q0:H d0=none:=z0;let#[nx1,z1]:=bd h1;let#[n10,w10]:=bd z1;let#[_,y10]:=bd w10;have q1:H d1=none:=y10;let#[nx2,z2]:=bd h2;let#[n21,w21]:=bd z2;let#[_,y21]:=bd w21;let#[n20,w20]:=bd y21;let#[_,y20]:=bd w20;have q2:H d2=none:=y20;let#[nx3,z3]:=bd h3;let#[n32,w32]:=bd z3;let#[_,y32]:=bd w32;let#[n31,w31]:=bd y32;let#[_,y31]:=bd w31;let#[n30,w30]:=bd y31;let#[_,y30]:=bd w30;have q3:H d3=none:=y30;let#[nx4,z4]:=bd h4;let#[n43,w43]:=bd z4;let#[_,y43]:=bd w43;let#[n42,w42]:=bd y43;let#[_,y42]:=bd w42;let#[n41,w41]:=bd y42;let#[_,y41]:=bd w41;let#[n40,w40]:=bd y41;let#[_,y40]:=bd w40;have q4:H d4=none:=y40;let#[nx5,z5]:=bd h5;let#[n54,w54]:=bd z5;let#[_,y54]:=bd w54;let#[n53,w53]:=bd y54;let#[_,y53]:=bd w53;let#[n52,w52]:=bd y53;let#[_,y52]:=bd w52;let#[n51,w51]:=bd y52;let#[_,y51]:=bd w51;let#[n50,w50]:=bd y51;let#[_,y50]:=bd w50;have q5:H d5=none:=y50;have inj:=D8 (d0:=d0) (d1:=d1) (d2:=d2) (d3:=d3) (d4:=d4) (d5:=d5) (by simp [Ne.symm n10,Ne.symm n20,Ne.symm n30,Ne.symm n40,Ne.symm n50,Ne.symm n21,Ne.symm n31,Ne.symm n41,Ne.symm n51,Ne.symm n32,Ne.symm n42,Ne.symm n52,Ne.symm n43,Ne.symm n53,Ne.symm n54]);show#[5,x,t.bR,dx,5,bG aG (Ne.symm nx5),T.cw.cl,T.tE,∅,dd d0 d1 d2 d3 d4 d5,rfl,#[aG,λj hj=>?_],inj,λb o e=>bG (bG (bG (bG (bG (bG (bG (bG (bG (bG (bG (bG (bG (sx e).2 (sx e).1) (cS (sx e).2 q0)) (sx e).1) (cS (sx e).2 q1)) (sx e).1) (cS (sx e).2 q2)) (sx e).1) (cS (sx e).2 q3)) (sx e).1) (cS (sx e).2 q4)) (sx e).1) (cS (sx e).2 q5)) (sx e).1,λk=>?_]
     . match j,hj with
       | 0,_=>exact bG (bG (bG (bG (bG (bG (bG (bG (bG (bG (bG aG nx0) (Ne.symm n10)) nx0) (Ne.symm n20)) nx0) (Ne.symm n30)) nx0) (Ne.symm n40)) nx0) (Ne.symm n50)) nx0
       | 1,_=>exact bG (bG (bG (bG (bG (bG (bG (bG (bG aG nx1) (Ne.symm n21)) nx1) (Ne.symm n31)) nx1) (Ne.symm n41)) nx1) (Ne.symm n51)) nx1
       | 2,_=>exact bG (bG (bG (bG (bG (bG (bG aG nx2) (Ne.symm n32)) nx2) (Ne.symm n42)) nx2) (Ne.symm n52)) nx2
       | 3,_=>exact bG (bG (bG (bG (bG aG nx3) (Ne.symm n43)) nx3) (Ne.symm n53)) nx3
       | 4,_=>exact bG (bG (bG aG nx4) (Ne.symm n54)) nx4
       | 5,_=>exact bG aG nx5
       | n+6,h=>lia
     . match k with
       | 0=>exact(bW nx0).trans q0
       | 1=>exact(bW nx1).trans q1
       | 2=>exact(bW nx2).trans q2
       | 3=>exact(bW nx3).trans q3
       | 4=>exact(bW nx4).trans q4
       | n+5=>exact(bW nx5).trans q5
   rintro σ' G ⟨d,rfl,hFS,inj,hsm,hfd⟩;show#[5,p,rfl,#[_,hsm.seq hS],(let Jv1:Nat->St->Hp->Prop:=λi σ H2=>∃(v2 v3:JK V) (kv:Nat->List (aI×V)) (nl wl:Nat->Mc),σ=[⇑↥x,⇑↥p,v2,v3]/\aA (ers x H) H2/\FS t.bR H2 x dx (eC (V.str fz.name) d) d kv/\kv 0=kD (λi _=>.int i) (fns.take i)/\kv 1=kD (λ_ f=>f.fo) (fns.take i)/\kv 2=kD (λ_ f=>↥f.pa) (fns.take i)/\kv 3=kD (λ_ f=>↥f.ra) (fns.take i)/\kv 4=kD (λi _=>↥(nl i)) (fns.take i)/\kv 5=kD (λi _=>↥(wl i)) (fns.take i)/\(∀j g,j<i->fns[j]?=⇑g->hl H2 (nl j)=⇑(.lst ((nms g).map V.str))/\K13.FoundN (hl H2) (wl j) (kds g) (kds g).length)/\∀j,j<6->(kv j).length<=i; AY (xs:=fns.map λf=>V.ref f.fa) Jv1 #[8,λ_=>0,λ_=>0,rfl,hsm,hFS,127,λj g h=>absurd h (K9 _),λj hj=>JN _] ?_ ?_ ?_)]
   . rintro i σ H2 hi ⟨v2,v3,kv,nlf,wlf,rfl,s2,_⟩;exact s2.seq hS
   . rintro i y σ H2 b hy ⟨v2,v3,kv,nlf,wlf,rfl,s2,o2,k0,k1,k2,k3,k4,k5,hnw,kl⟩ hb;let#[f,hi,hm,rfl]:=E8 hy;have ilt:i<fns.length:=(JH.mp hi).1;have hT:=(hE f hm).fn;have hfu:=(hE f hm).fu;have fit:∀{n:Nat},n<=i+1->n<sizeLine:=λ{n} h=>wF ∅;show#[b,5,aD.of aG,403,?_];have s3:=s2\(aA.new (o:=.tup [.int i,↥f.fa]) hb);have o3:=o2*>(aA.new (o:=.tup [.int i,↥f.fa]) hb);show#[21,x,t.bR,dx,9,o3.ob,T.cw.cl,T.AT,EJ _ _,5,f.fa,35,s3<*hT,at0,d 0,5,eK.k (k:=(Sum.inr f.name:aI)) (show _=⇑(HO.dK (kv 0)) from o3.dc 0 #[]) (fit (by have:=kl 0 #[]; simpa using (by lia:_<=i+1))),?_];have s4:=aA.upd (o:=.dK (ae (kv 0) (Sum.inr f.name:aI) (V.int i))) s3 (hfd 0);have o4:=o3.put inj 0 #[] (ae (kv 0) (Sum.inr f.name:aI) (V.int i));show#[5,f.fa,35,s4<*hT,13,x,t.bR,dx,9,o4.ob,T.cw.cl,T.AS,Ar _ _,5,f.fa,35,s4<*hT,at0,d 1,5,eK.k (k:=(Sum.inr f.name:aI)) (show _=⇑(HO.dK (kv 1)) from o4.dc 1 #[]) (fit (by have:=kl 1 #[]; simpa using (by lia:_<=i+1))),?_];have s5:=aA.upd (o:=.dK (ae (kv 1) (Sum.inr f.name:aI) f.fo)) s4 (hfd 1);have o5:=o4.put inj 1 #[] (ae (kv 1) (Sum.inr f.name:aI) f.fo);show#[5,f.fa,35,s5<*hT,13,x,t.bR,dx,9,o5.ob,T.cw.cl,T.t9,vf _ _,5,f.fa,35,s5<*hT,at0,d 2,5,eK.k (k:=(Sum.inr f.name:aI)) (show _=⇑(HO.dK (kv 2)) from o5.dc 2 #[]) (fit (by have:=kl 2 #[]; simpa using (by lia:_<=i+1))),?_];have s6:=aA.upd (o:=.dK (ae (kv 2) (Sum.inr f.name:aI) ↥f.pa)) s5 (hfd 2);have o6:=o5.put inj 2 #[] (ae (kv 2) (Sum.inr f.name:aI) ↥f.pa);show#[5,f.fa,35,s6<*hT,13,x,t.bR,dx,9,o6.ob,T.cw.cl,T.tD,tT _ _,5,f.fa,35,s6<*hT,at0,d 3,5,eK.k (k:=(Sum.inr f.name:aI)) (show _=⇑(HO.dK (kv 3)) from o6.dc 3 #[]) (fit (by have:=kl 3 #[]; simpa using (by lia:_<=i+1))),?_];have s7:=aA.upd (o:=.dK (ae (kv 3) (Sum.inr f.name:aI) ↥f.ra)) s6 (hfd 3);have o7:=o6.put inj 3 #[] (ae (kv 3) (Sum.inr f.name:aI) ↥f.ra);show#[5,f.fa,f.ps,f.ds,rfl,hfu*>s7,λnl H8 e8 hnl hl8=>?_];have s8:=s7\e8;have o8:=o7*>e8;show#[5,x,t.bR,dx,9,o8.ob,T.cw.cl,T.om,xi _ _,5,f.fa,35,s8<*hT,at0,d 4,5,eK.k (k:=(Sum.inr f.name:aI)) (show _=⇑(HO.dK (kv 4)) from o8.dc 4 #[]) (fit (by have:=kl 4 #[]; simpa using (by lia:_<=i+1))),?_];have s9:=aA.upd (o:=.dK (ae (kv 4) (Sum.inr f.name:aI) ↥nl)) s8 (hfd 4);have o9:=o8.put inj 4 #[] (ae (kv 4) (Sum.inr f.name:aI) ↥nl);show#[5,f.fa,35,s9<*hT,rfl,f.ra,kds f,rfl,((hE f hm).old.mono s9).rows,(hPl f hm),(by unfold kds; rw[JE]; have:=(hE f hm).len; lia),λwl HA eA hwl hfn=>?_];have sA:=s9\eA;have oA:=o9*>eA;show#[5,x,t.bR,dx,9,oA.ob,T.cw.cl,T.tE,wM _ _,5,f.fa,35,sA<*hT,at0,d 5,5,eK.k (k:=(Sum.inr f.name:aI)) (show _=⇑(HO.dK (kv 5)) from oA.dc 5 #[]) (fit (by have:=kl 5 #[]; simpa using (by lia:_<=i+1))),?_];have sB:=aA.upd (o:=.dK (ae (kv 5) (Sum.inr f.name:aI) ↥wl)) sA (hfd 5);have oB:=oA.put inj 5 #[] (ae (kv 5) (Sum.inr f.name:aI) ↥wl);have c3:aA (hl H2) (hl H8):=by have z1:aA (hl H2) (hl (upd H2 b (.tup [.int i,↥f.fa]))):=(aA.new (o:=.tup [.int i,↥f.fa]) hb).hl;have z2:=e8.hl;rw[jK (o6.dc 3 #[]),jK (o5.dc 2 #[]),jK (o4.dc 1 #[]),jK (o3.dc 0 #[])] at z2;exact z1\z2
     have c4:aA (hl H8) (hl HA):=by have z2:=eA.hl;rw[jK (o8.dc 4 #[])] at z2;exact z2
     have c5:hl (upd HA (d 5) (.dK (ae (kv 5) (Sum.inr f.name:aI) ↥wl)))=hl HA:=jK (oA.dc 5 #[]);show#[8,λj=>if j=i then nl else nlf j,λj=>if j=i then wl else wlf j,rfl,sB,oB,?_,?_,?_,?_,?_,?_,λj g hj hg=>?_,λj hj=>?_]
     . show ae (kv 0) (Sum.inr f.name:aI) (V.int i)=_;rw[k0];exact jG hi nd (λ_ _ _=>rfl) rfl
     . show ae (kv 1) (Sum.inr f.name:aI) f.fo=_;rw[k1];exact jG hi nd (λ_ _ _=>rfl) rfl
     . show ae (kv 2) (Sum.inr f.name:aI) ↥f.pa=_;rw[k2];exact jG hi nd (λ_ _ _=>rfl) rfl
     . show ae (kv 3) (Sum.inr f.name:aI) ↥f.ra=_;rw[k3];exact jG hi nd (λ_ _ _=>rfl) rfl
     . show ae (kv 4) (Sum.inr f.name:aI) ↥nl=_;rw[k4];exact jG hi nd (λj _ hj=>by show V.ref (nlf j)=V.ref (if j=i then nl else nlf j); rw[JI ∅]) (by show V.ref nl=V.ref (if i=i then nl else nlf i); rw[JR rfl])
     . show ae (kv 5) (Sum.inr f.name:aI) ↥wl=_;rw[k5];exact jG hi nd (λj _ hj=>by show V.ref (wlf j)=V.ref (if j=i then wl else wlf j); rw[JI ∅]) (by show V.ref wl=V.ref (if i=i then wl else wlf i); rw[JR rfl])
     . rw[c5];by_cases hji:j=i
       . subst hji;rw[hi] at hg;cases hg;show#[?_,?_]
         . show hl HA (if j=j then nl else nlf j)=_;rw[JR rfl];exact c4 _ _ (uW hl8)
         . show K13.FoundN (hl HA) (if j=j then wl else wlf j) _ _;rw[JR rfl];exact hfn.hl
       . let#[y1,y2]:=hnw j g ∅ hg;show#[?_,?_]
         . show hl HA (if j=i then nl else nlf j)=_;rw[JI hji];exact c4 _ _ (c3 _ _ y1)
         . show K13.FoundN (hl HA) (if j=i then wl else wlf j) _ _;rw[JI hji];exact y2*>(c3\c4)
     . have e:=kl j hj
       match j,hj with
       | 0,_=>exact Jj (fV _ _ _) ∅
       | 1,_=>exact Jj (fV _ _ _) ∅
       | 2,_=>exact Jj (fV _ _ _) ∅
       | 3,_=>exact Jj (fV _ _ _) ∅
       | 4,_=>exact Jj (fV _ _ _) ∅
       | 5,_=>exact Jj (fV _ _ _) ∅
       | n+6,h=>lia
   . rintro σ H2 ⟨v2,v3,kv,nlf,wlf,rfl,s2,o2,k0,k1,k2,k3,k4,k5,hnw,kl⟩;rw[fl,Jw] at k0 k1 k2 k3 k4 k5;exact q H2 s2 #[λf hf=>(hE f hf)*>s2,nd,dx,fz,d,kv,nlf,wlf,hz,o2,k0,k1,k2,k3,k4,k5,λi f hi=>by let#[y1,y2]:=hnw i f (by rw[fl]; exact(JH.mp hi).1) hi; show#[rn _ _ y1,y2*>rn]]
end
end K45
namespace K45
open PySem L2 Gx Fl Bg Wk St Br Cb
section
variable {P:Program} {w:World} {K:Md} {mg:Str->JK Ma} {base:Heap} {t:Adr}
def Ee:FnScope ["self","frame"] ["self","frame"] (az qQ):=by walk_at "s"
def xH (T:Txt K mg t):FnOk P w K mg base CX0 1 t.yF t.zH ["self","frame"] (Fh K t):=by
 refine T.mG.F.ok Ee (λvs H Q E h=>?_) (λcdv A outer s H vs Q E hr h=>?_)
 . let#[_,_,_,_,_,_,rfl,_]:=h;rfl
 . let#[x,fa,fns,F,r,w,rfl,hF,hm,hT,hW,q]:=h;show#[_,(aH (@af _ _ _ _ (iX K (jF (cr hr.units) (fD (a8 0)) (iT K (a8 1)) (λ_ _=>rfl)) (iT K (a8 1)))) ag),?_];let#[dx,fs,d,kvs,e1,e2,e3,e4]:=Ah hF hm;show#[5,x,t.bR,dx,9,e1,T.cw.cl,T.tD,e2,5,fa,35,hT,at0,9,jD e3 e4,5,fa,35,hT,rfl,F.ra,35,(hF.all F hm).rw_,vN ∅ (by rw[KA]; exact hW),q]
def IT:FnScope ["self","frame"] ["self","frame"] (az rW):=by walk_at "s"
def Dp (T:Txt K mg t):FnOk P w K mg base CX0 1 t.yG t.zJ ["self","frame"] (Ej K t):=by
 refine T.si.F.ok IT (λvs H Q E h=>?_) (λcdv A outer s H vs Q E hr h=>?_)
 . let#[_,_,_,_,_,_,_,rfl,_]:=h;rfl
 . let#[x,fa,fns,F,r,j,to_,rfl,hF,hm,hT,hr_,hw,q]:=h;show#[_,(aH (@af _ _ _ _ (iY K (jF (cr hr.units) (fD (a8 0)) (iT K (a8 1)) (λ_ _=>rfl)) (iT K (a8 1)))) ag),?_];obtain⟨wl,tp,vs,l,⟨dx,fs,d,kvs,e1,e2,e3,e4⟩,h1,h2,h3,h4⟩:=CL hF hm hr_ hw;show#[5,x,t.bR,dx,9,e1,T.cw.cl,T.tE,e2,5,fa,35,hT,at0,9,jD e3 e4,5,fa,35,hT,rfl,wl,35,aE.of h1,bf h2,q tp l (aD.of h3) h4]
end
end K45
namespace K45
open PySem L2 K21 Rk2
section
variable {P:Program} {w:World} {K:Md} {mg:Str->JK Ma} {base:Heap} {t:Adr}
def GD:FnScope ["sign","one","other"] ["sign","one","other"] (az rQ):=by walk_at "s"
def Aj (T:Txt K mg t):FnOk P w K mg base CX0 1 t.zA t.A8 ["sign","one","other"] (De K):=by
 refine T.value.F.ok GD (λvs H Q E h=>?_) (λcdv A outer s H vs Q E hr h=>?_)
 . let#[_,_,_,rfl,_]:=h;rfl
 . let#[s,a,b,rfl,h1,h2,h3,h4,q]:=h;show#[_,(aH (ai (aS ak (a8 0) aU (aN _)) (~~~(aM bE<$>(bN cM<$>a8 1<*>a8 2)<*>rp T.t7)) ag) (aH (ai (aS ak (a8 0) aU (aN _)) (~~~(aM bE<$>(bN i4<$>a8 1<*>a8 2)<*>rp T.t7)) ag) (aH (ai (aS ak (a8 0) aU (aN _)) (~~~(aM bE<$>(aM eN<$>a8 1<*>a8 2)<*>rp T.t7)) ag) (aH (ai (aS ak (a8 0) aU (aN _)) (~~~(@jR _ _ _ _ _ _ _ _ (aS ak (a8 2) aF (aN _)) aF (aM xV<$>a8 1<*>a8 2))) ag) (aH (ai (aS ak (a8 0) aU (aN _)) (~~~(@jR _ _ _ _ _ _ _ _ (aS (bN qh) (a8 1) (a8 2) (aN _)) aF aF)) ag) (aH (ai (aS ak (a8 0) aU (aN _)) (~~~(@jR _ _ _ _ _ _ _ _ (aS ak (a8 1) (a8 2) (aN _)) aF aF)) ag) (aH (ai (aS ak (a8 0) aU (aN _)) (~~~(bN vI<$>a8 1<*>a8 2)) ag) (aH (ai (aS ak (a8 0) aU (aN _)) (~~~(bN ua<$>a8 1<*>a8 2)) ag) (~~~(bN uJ<$>a8 1<*>a8 2)))))))))),?_];have hw:wide=281474976710656:=rfl;show#[45,?_];by_cases k1:s="+"
   . refine aL (JG (JW V.str k1)) ?_;have e:valOf s a b=(a+b)%wide:=by unfold valOf; rw[JR k1]
     rw[e] at q;show#[5427,(show(0:Int)<281474976710656 by decide),q]
   refine aX (λz=>k1 0xC) ?_;show#[45,?_];by_cases k2:s="-"
   . refine aL (JG (JW V.str k2)) ?_;have e:valOf s a b=(a - b)%wide:=by unfold valOf; rw[JI k1,JR k2]
     rw[e] at q;show#[5427,(show(0:Int)<281474976710656 by decide),q]
   refine aX (λz=>k2 0xC) ?_;show#[45,?_];by_cases k3:s="*"
   . refine aL (JG (JW V.str k3)) ?_;have e:valOf s a b=(a * b)%wide:=by unfold valOf; rw[JI k1,JI k2,JR k3]
     rw[e] at q;show#[339,.inl #[∅,∅],19,(show(0:Int)<281474976710656 by decide),q]
   refine aX (λz=>k3 0xC) ?_;show#[45,?_];by_cases k4:s="/"
   . refine aL (JG (JW V.str k4)) ?_;have e:valOf s a b=if b=0 then 0 else a / b:=by unfold valOf; rw[JI k1,JI k2,JI k3,JR k4]
     rw[e] at q;show#[45,?_];by_cases hb:b=0
     . rw[JR hb] at q;exact aL (JG (JW V.int hb)) q
     . rw[JI hb] at q;exact aX (λz=>hb (V.int.inj (aq z))) #[339,#[∅,∅],q]
   refine aX (λz=>k4 0xC) ?_;show#[45,?_];by_cases k5:s="<"
   . refine aL (JG (JW V.str k5)) ?_;have e:valOf s a b=if a<b then 1 else 0:=by unfold valOf; rw[JI k1,JI k2,JI k3,JI k4,JR k5]
     rw[e] at q;show#[1357,?_];by_cases hb:a<b
     . rw[JR hb] at q;exact aL (JG hb) q
     . rw[JI hb] at q;exact aX (λz=>hb (aq z)) q
   refine aX (λz=>k5 0xC) ?_;show#[45,?_];by_cases k6:s="="
   . refine aL (JG (JW V.str k6)) ?_;have e:valOf s a b=if a=b then 1 else 0:=by unfold valOf; rw[JI k1,JI k2,JI k3,JI k4,JI k5,JR k6]
     rw[e] at q;show#[173,?_];by_cases hb:a=b
     . rw[JR hb] at q;exact aL (JG (JW V.int hb)) q
     . rw[JI hb] at q;exact aX (λz=>hb (V.int.inj (aq z))) q
   refine aX (λz=>k6 0xC) ?_;show#[45,?_];by_cases k7:s="&"
   . refine aL (JG (JW V.str k7)) ?_;have e:valOf s a b=Builtin.bitAnd a b:=by unfold valOf bw; rw[JI k1,JI k2,JI k3,JI k4,JI k5,JI k6,JR k7]
     rw[e] at q;show#[339,q]
   refine aX (λz=>k7 0xC) ?_;show#[45,?_];by_cases k8:s="|"
   . refine aL (JG (JW V.str k8)) ?_;have e:valOf s a b=Builtin.bitOr a b:=by unfold valOf bw; rw[JI k1,JI k2,JI k3,JI k4,JI k5,JI k6,JI k7,JR k8]
     rw[e] at q;show#[339,q]
   refine aX (λz=>k8 0xC) ?_;have e:valOf s a b=Builtin.bitXor a b:=by unfold valOf bw; rw[JI k1,JI k2,JI k3,JI k4,JI k5,JI k6,JI k7,JI k8]
   rw[e] at q;show#[339,q]
def Dd:FnScope ["sign","left","right"] ["sign","left","right"] (az qD):=by walk_at "s"
def IL (T:Txt K mg t):FnOk P w K mg base CX0 2 t.z9 t.A7 ["sign","left","right"] (BE K t):=by
 have Qz:=Aj (P:=P) (w:=w) (base:=base) T;refine T.together.F.ok Dd (λvs H Q E h=>?_) (λcdv A outer s H vs Q E hr h=>?_)
 . let#[_,_,_,_,_,rfl,_]:=h;rfl
 . let#[s,tl,tr,x,y,rfl,sg,hL,hR,oL,oR,q]:=h;show#[_,(aH (ai (@PW.pt _ _ _ (dJ (aS ak (iT K (a8 1)) aU (aN _)) (dY (aS ak (iT K (a8 2)) aU (aN _))))) (~~~(aj (aU>=>(cD T.value Qz hr (a8 0>=>(iT K (a8 1))>=>(iT K (a8 2))>=>aC))>=>aC))) ag) (~~~(aj (a8 0>=>a8 1>=>a8 2>=>aC)))),?_];let#[p1,g1,r1,rfl,e1,n1,m1]:=hL.head;let#[p2,g2,r2,rfl,e2,n2,m2]:=hR.head;have opc:((∀k,tl≠.num k)\/∀k,tr≠.num k)->∀p,H p=none->Q ↥p (upd H p (.tup [.str s,↥p1,↥p2])):=λh p hp=>by refine q _ _ (aA.new hp) ?_;rw[tZ h];show#[p,9,aG,sg.1,sg.2,hL*>(aA.new hp),hR*>(aA.new hp)]
   show#[5,p1,35,e1,at0,13,?_];by_cases k1:g1="num"
   . refine aL (JG (JW V.str k1)) #[5,p2,35,e2,at0,13,?_];by_cases k2:g2="num"
     . refine aL (JG (JW V.str k2)) ?_;let#[a,rfl,rfl]:=n1 k1;let#[b,rfl,rfl]:=n2 k2;have bA:=jc oL;have bB:=jc oR;show#[21,p1,35,e1,13,p2,35,e2,rfl,s,a,b,rfl,bA.1,bB.1,bA.2,bB.2,aZ,λp hp=>q _ _ (aA.new hp) #[p,rfl,aG]]
     . refine aX (λz=>k2 0xC) #[85,cn,opc (.inr (m2 k2))]
   . refine aX (λz=>k1 0xC) (lR #[85,cn,opc (.inl (m1 k1))])
def vp:FnScope ["one","news"] ["one","news"] (az lH):=by walk_at "s"
def xT (T:Txt K mg t):∀n,FnOk P w K mg base CX0 (n+3) t.oY t.oh ["one","news"] (pj K t n)
| 0=>T.put_through.F.ok vp (λvs H Q E h=>by let#[tr,v,d,kvs,g,rfl,hd,nb_,hR,hD,nv,ok,og,q]:=h; exact absurd hd (K9 _)) (λcdv A outer s H vs Q E hr h=>by let#[tr,v,d,kvs,g,rfl,hd,nb_,hR,hD,nv,ok,og,q]:=h; exact absurd hd (K9 _))
| n+1=>by
 have QA:=IL (P:=P) (w:=w) (base:=base) T;have Qg:FnOk P w K mg base CX0 (n+3) t.oY t.oh ["one","news"] (pj K t n):=xT T n;refine T.put_through.F.ok vp (λvs H Q E h=>?_) (λcdv A outer s H vs Q E hr h=>?_)
 . let#[_,_,_,_,_,rfl,_]:=h;rfl
 . skip
   refine lx ?_;intro XX;refine(let W2:TS:=_; have hW2:aY XX ((aV lH).drop 2) W2:=(~~~(io T.together QA (hr.mono ∅) ((iT K (a8 0))>=>(io T.put_through Qg (hr.mono ∅) ((iT K (a8 0))>=>a8 1>=>aC))>=>(io T.put_through Qg (hr.mono ∅) ((iT K (a8 0))>=>a8 1>=>aC))>=>aC))); ?_);refine(let W1:TS:=_; have hW1:aY XX ((aV lH).drop 1) W1:=(aH (ai (aS ak (iT K (a8 0)) aU (aN _)) (~~~(qZ (cr hr.units) (a8 1) (iT K (a8 0)) (a8 0) #[31])) ag) hW2); ?_);let#[tr,v,d,kvs,g,rfl,hd,nb_,hR,hD,nv,ok,og,q]:=h;show#[_,(aH (ai (aS ak (iT K (a8 0)) aU (aN _)) (~~~(a8 0)) ag) hW1),?_];cases tr with
   | num k =>
     have hR':=hR;let#[p,rfl,e]:=hR;show#[5,p,35,aD.of e,at0,13,aL (JG rfl) #[5,q _ _ (aA.refl _) (Br.RB.of nb_ hR')]]
   | box k =>
     have hR':=hR;let#[p,rfl,e]:=hR;show#[5,p,35,aD.of e,at0,13,aX (λz=>uS 0xC) ?_];show#[5,p,35,aD.of e,at0,13,aL (JG rfl) ?_];show#[5,d,rfl,.inl #[kvs,.inl hD],5,p,35,aD.of e,26,eJ.k (k:=Sum.inl k) hD,q _ _ (aA.refl _) ?_];show Br.RB K t.bT H ((g k).getD (.box k)) _;cases eg:g k with
     | none=>rw[nv.no eg]; exact Br.RB.of nb_ hR'
     | some t =>
       let#[x,h1,h2]:=nv.yes eg;rw[h1];exact h2
   | op s l r =>
     let#[p,x,y,rfl,e,n1,n2,hx,hy]:=hR;have d1:dp l<n:=by have:max (dp l) (dp r)+1<n+1:=hd; lia
     have d2:dp r<n:=by have:max (dp l) (dp r)+1<n+1:=hd; lia
     let#[o1,o2]:=oF ok;show#[5,p,35,aD.of e,at0,13,aX (λz=>n2 0xC) ?_];show#[5,p,35,aD.of e,at0,13,aX (λz=>n1 0xC) ?_];show#[5,p,35,aD.of e,at0,5,p,35,aD.of e,13,l,x,d,kvs,g,rfl,d1,nb_.1,hx,hD,nv,o1,og,λv1 H1 s1 r1=>?_];show#[5,p,35,aD.of (s1 _ _ e),13,r,y,d,kvs,g,rfl,d2,nb_.2,hy*>s1,s1 _ _ hD,nv*>s1,o2,og,λv2 H2 s2 r2=>?_];show#[s,pt g l,pt g r,v1,v2,rfl,#[n1,n2],r1*>s2,r2,jr og o1,jr og o2,λv3 H3 s3 r3=>q _ _ ((s1\s2).trans s3) r3]
end
end K45
namespace K45
open PySem L2 Gx Fl Bg Wk St Br Cb
section
variable {P:Program} {w:World} {K:Md} {mg:Str->JK Ma} {base:Heap} {t:Adr}
def p6:FnScope ["flows","mark","chain","views"] ["flows","mark"] (az sN):=by walk_at "s"
def uG (T:Txt K mg t):FnOk P w K mg base CX0 1 t.yx t.A1 ["flows","mark"] (Ao K t):=by
 refine T.levels_of.F.ok p6 (λvs H Q E h=>?_) (λcdv A outer s H vs Q E hr h=>?_)
 . let#[_,_,_,_,rfl,_]:=h;rfl
 . let#[x,m,fns,L,rfl,hF,hM,hk,hL,q]:=h;show#[_,(aH (fJ (a8 1) (dI rfl (bg (bD (i:=2) p6.nd rfl 0x8) (bg (bD (i:=3) p6.nd rfl 0x8) dL)))) (~~~(dg (N':=["frame","places","flows"]) (js:=[none,none,some 0]) (by kernel_rfl) rfl (jY true false rfl T.b_zip (a8 2>=>a8 3>=>aC)) (qa (jP (jP pB))) (λ_ _ _ _=>(show PG _ _ (m9 K 2 _) from dI (n:=2) rfl (bg (bD (i:=0) (show(["frame","places","flows"]:List Str).Nodup by decide +kernel) rfl 0x8 (.inr rfl)) (bg (bD (i:=1) (show(["frame","places","flows"]:List Str).Nodup by decide +kernel) rfl 0x8 (.inr rfl)) dL)))) (λ_ _ _ _=>dC) (λ_ _ _ _=>(uV (λK=>jg (pk false false K) _) rfl (Et false false rfl 0x0 T.b_dict 0x0 T.b_zip ((jF (cr hr.units) (uV (λK=>qU K _ "names_in") rfl (fD (a8 2))) (iT K (a8 0)) (λ_ _=>rfl))>=>a8 1>=>aC))))))),?_];obtain⟨p,c,w,ws,rfl,hp,⟨cA,cs,rfl,hcs,hcp⟩,hw,hwp⟩:=hM;have hcp:Rk2.Ps (cy K H) cs (L.map Lev.fr):=hcp;have hwp:Rk2.Ps (gy K H) ws (L.map Lev.vw):=hwp;have lc:cs.length=L.length:=by have:=Rk2.Ps.len hcp; rwa [JE] at this
   have lw:ws.length=L.length:=by have:=Rk2.Ps.len hwp; rwa [JE] at this
   show#[5,p,5,hp,403,?_];show#[21,cA,w,rfl,#[_,hcs],#[_,hw],λpL hpL=>Ht (b1:=true) (b2:=false) (xs:=cs) (ys:=ws) ∅ (λi acc H2=>aA H H2/\H2 pL=⇑(.lst acc)/\Rk2.Ps (lN H (ers pL H2)) acc (L.take i)) #[aA.new hpL,aG,by rw[List.take_zero]; trivial] ?_ ?_ ?_]
   . rintro i acc H2 hi ⟨s2,e2,l2⟩;show#[e2,by rw[Rk2.Ps.len l2,Jk]; lia,s2<*hcs,s2.seq hw]
   . rintro i y z acc H2 b hy hz ⟨s2,e2,l2⟩ hb;have hi:i<L.length:=by have:=(JH.mp hy).1; lia
     obtain⟨e,he⟩:∃e,L[i]?=⇑e:=#[L[i],JU hi]
     let#[u1,c1,a1,a2,a3]:=Rk2.Ps.at hcp (n:=i) (by rw[JE]; exact hi);rw[JS,he] at a2;cases a2;rw[hy] at a1;cases a1;let#[u2,c2,b1,b2,b3]:=Rk2.Ps.at hwp (n:=i) (by rw[JE]; exact hi);rw[JS,he] at b2;cases b2;rw[hz] at b1;cases b1;let#[fp,rfl,hfr]:=a3;let#[vl,us,rfl,hvl,hus]:=b3;have ok:=hk e (JM he);have s3:=aA.new (o:=.tup [V.ref fp,V.ref vl]) hb;show#[b,5,aD.of aG,403,?_];generalize upd H2 b (.tup [V.ref fp,V.ref vl])=H3 at s3 ⊢;have s03:=s2\s3;obtain⟨nl,⟨dx,fs,d,kvs,g1,g2,g3,g4⟩,g5⟩:=tX (hF*>s03) ok.m;show#[5,x,t.bR,dx,9,g1,T.cw.cl,T.om,g2,5,fp,35,s03<*hfr,at0,9,jD g3 g4,5,nl,vl,(F2.nms e.F).map (λn=>(Sum.inr n:aI)),us,rfl,(by rw[K7]; exact aE.of g5),s03.seq hvl,(by rw[JE]; have:=ok.b; lia),λd2 H4 n4 s4 e4=>?_];have nd:d2≠pL:=λz=>by rw[z,s3 _ _ e2] at n4; cases n4
     show#[s4 _ _ (s3 _ _ e2),(s03\s4).upd hpL,aG,?_];rw[show L.take (i+1)=L.take i++[e] by rw[List.take_succ,he]; rfl,fH];exact Rk2.Ps.app (Rk2.Ps.imp (λ_ _ z=>z*>(aA.ers (s3\s4))) l2) #[#[d2,us,rfl,(s03.free n4),(by rw[bW nd]; exact e4\(JW (λz=>⇑(HO.dK z)) (xw (us:=us) (acc:=[]) (qO _) λ_ _=>rfl))),Rk2.Ps.imp (λ_ _ z=>aO.mono z (gU (s03\s4) hpL)) hus],trivial]
   . rintro acc H2 ⟨s2,e2,l2⟩;rw[lc,lw,Nat.min_self,Jw] at l2;exact q _ _ s2 #[pL,acc,rfl,e2,Rk2.Ps.imp (λ_ _ z=>z*>cZ) l2]
def EM:FnScope ["named","atom"] ["named","atom"] (az sP):=by walk_at "s"
def rA (T:Txt K mg t):FnOk P w K mg base CX0 1 t.z6 t.A4 ["named","atom"] (EY K t):=by
 refine T.place_of.F.ok EM (λvs H Q E h=>?_) (λcdv A outer s H vs Q E hr h=>?_)
 . let#[_,_,_,_,_,rfl,_]:=h;rfl
 . let#[b0,d,f,a,o,rfl,hL,ho,q]:=h;show#[_,(aH (@af _ _ _ _ (@jR _ _ _ _ _ _ _ _ (jE (bz oT 0x0 T.b_isinstance nV (a8 1>=>(nr (v:=V.ty "str") rfl T.b_str p7 rfl)>=>aC))) (jF (cr hr.units) (a8 0) (a8 1) (λ_ _=>rfl)) (aj (aU>=>a8 1>=>aC)))) ag),?_];cases a with
   | str n =>
     let#[kvs,e,_,h3]:=hL;let#[v,h4,h5]:=h3 n o ho;show#[10,"str",_,true,rfl,.str _,13,rV #[21,d,5,jD e h4,q v H (aA.refl _) h5]]
   | int i =>
     cases ho;show#[10,"str",_,false,rfl,.int _,13,lR #[5,aZ,λp hp=>q _ _ (aA.new hp) #[p,rfl,aG]]]
   | _=>cases ho
def xj:FnScope ["flows","chain","way","last"] ["flows","chain","way"] (az qJ):=by walk_at "s"
def wB (T:Txt K mg t):FnOk P w K mg base CX0 2 t.yy t.A2 ["flows","chain","way"] (D9 K t):=by
 have QB:=Dp (P:=P) (w:=w) (base:=base) T;refine T.moved.F.ok xj (λvs H Q E h=>?_) (λcdv A outer s H vs Q E hr h=>?_)
 . let#[_,_,_,_,_,_,_,_,rfl,_]:=h;rfl
 . let#[x,cv,fns,ch,F,r,j,to_,rfl,hF,hC,hm,hr_,hw,h10,q]:=h;show#[_,(aH (pS 3 xj.nd (iX K (a8 1) (bO bP aF))) (~~~(vG<$>(dG lj (a8 1) dO (dB (bO bP aF)))<*>(aj ((aj ((iT K (a8 3))>=>(iX K (fe (a8 0) T.cw.cl T.si.m QB (hr*>#[]) T.si.b .nil eO (a8 3>=>aC)) (a8 2))>=>aC))>=>aC))))),?_];let#[cA,cs,rfl,hcs,hp]:=hC;let#[ws,u,rfl,h1,fa,rfl,hfa]:=St.Ps.split1 hp;have lw:ws.length=ch.length:=Rk2.Ps.len h1;show#[21,cA,35,hcs,cO _ _,?_];show#[85,j9 hcs λqA HA sA hqA=>?_];rw[i'] at hqA;have hF':=hF*>sA;let#[dx,fz,d,kv,nl,wl,h0,hO,_]:=hF'.ob;show#[5,fa,35,sA<*hfa,at0,5,x,dx,5,hO.ob,0x0,5,x,fa,fns,F,r,j,to_,rfl,hF',hm,sA<*hfa,hr_,hw,λtp l ht hl=>?_];show#[5,tp,35,ht,bf (j:=j) (by unfold K13.natsV; rw[JS,hl]; rfl),aZ,λp1 hp1=>#[cB,λp2 hp2=>?_]];have z1:=aA.new (o:=.tup [.str F.name,.int (to_:Int)]) hp1;have z2:=aA.new (o:=.tup [↥p1]) hp2;refine uj ((z1\z2)<*hqA) aG 0x6 (bt (by show ws.length+1<_; lia)) λp3 H3 s3 e3=>?_;have s03:=((sA\z1).trans z2).trans s3;exact q _ H3 s03 #[p3,5,aD.of e3,Rk2.Ps.app (Rk2.Ps.imp (λ_ _ z=>z*>s03) h1) #[#[p1,rfl,s3<*(z2<*(aD.of aG))],trivial]]
def tP:FnScope ["levels","name","place","named"] ["levels","name","place"] (az mQ):=by walk_at "s"
def pE (T:Txt K mg t):FnOk P w K mg base CX0 1 t.zC t.AA ["levels","name","place"] (Iq K t):=by
 refine T.with_given.F.ok tP (λvs H Q E h=>?_) (λcdv A outer s H vs Q E hr h=>?_)
 . let#[_,_,_,_,_,_,rfl,_]:=h;rfl
 . skip
   refine lx ?_;intro XX;refine(let W2:TS:=_; have hW2:aY XX ((aV mQ).drop 2) W2:=(~~~(dh<$>(dG fZ (a8 0) dO (dB (bO bP aF)))<*>(bQ (a8 3>=>aC)))); ?_);let#[lv,pv,n,fs,f,o,rfl,hL,hv,h10,q]:=h;show#[_,(aH (pS 3 tP.nd (br IF 0x0 T.b_dict kW ((iY K (a8 0) (bO bP aF))>=>aC))) (aH (fw (cr hr.units) (a8 3) (a8 1) (a8 2) 0x0) hW2)),?_];let#[l,ds,rfl,el,hd]:=hL;let#[ws,u,rfl,h1,d,rfl,kvs,e,hk,h3]:=St.Ps.split1 hd;have lw:ws.length=fs.length:=Rk2.Ps.len h1;show#[21,l,35,aE.of el,cO _ _,d,kvs,rfl,e,λd2 hd2=>?_];have s1:=aA.new (o:=.dK kvs) hd2;show#[85,d2,5,eK.k (k:=(Sum.inr n:aI)) aG (Rk2.lt_line' (n:=kvs.length) ∅),?_];have s2:aA H (upd (upd H d2 (.dK kvs)) d2 (.dK (ae kvs (Sum.inr n:aI) pv))):=s1.upd hd2;have e2:upd (upd H d2 (.dK kvs)) d2 (.dK (ae kvs (Sum.inr n:aI) pv)) d2=⇑(.dK (ae kvs (Sum.inr n:aI) pv)):=aG;generalize upd (upd H d2 (.dK kvs)) d2 (.dK (ae kvs (Sum.inr n:aI) pv))=H2 at s2 e2 ⊢;show#[85,l,5,aE.of (s2 _ _ el),λp1 hp1=>#[5,cB,λp2 hp2=>?_]];rw[i'] at hp2 ⊢;show#[p1,p2,19,aA.new hp2 _ _ aG,aG,bt (by show ws.length+1<_; lia),λp3 hp3=>?_];have s3:=((aA.new (o:=.lst ws) hp1)\(aA.new (o:=.lst [↥d2]) hp2)).trans (aA.new (o:=.lst (ws++[↥d2])) hp3);refine q _ _ (s2\s3) #[p3,5,aG,Rk2.Ps.app (Rk2.Ps.imp (λ_ _ z=>(z*>(s2\s3)).up #[]) h1) #[#[d2,6,s3 _ _ e2,by have:=u9 kvs (Sum.inr n:aI) pv; lia,λm o' hm=>?_],trivial]];rw[nI];unfold dq at hm;by_cases hmn:m=n
   . rw[JR hmn] at hm;cases hm;rw[JR (by rw[hmn])];show#[pv,rfl,hv*>(s2\s3)]
   . rw[JI hmn] at hm;rw[JI (λz=>hmn (Sum.inr.inj z))];let#[v,a1,a2]:=h3 m o' hm;show#[v,a1,a2*>(s2\s3)]
def nO:FnScope ["flows","row","levels","named","param","atom"] ["flows","row","levels"] (az m5):=by walk_at "s"
def Da (T:Txt K mg t):FnOk P w K mg base CX0 2 t.yT t.zX ["flows","row","levels"] (GZ K t):=by
 have Qd:=rA (P:=P) (w:=w) (base:=base) T;refine T.entered.F.ok nO (λvs H Q E h=>?_) (λcdv A outer s H vs Q E hr h=>?_)
 . let#[_,_,_,_,_,_,_,_,_,_,_,rfl,_]:=h;rfl
 . skip
   refine lx ?_;intro XX;refine(let W2:TS:=_; have hW2:aY XX ((aV m5).drop 2) W2:=(~~~(dh<$>a8 2<*>(bQ (a8 3>=>aC)))); ?_);refine(let W1:TS:=_; have hW1:aY XX ((aV m5).drop 1) W1:=(aH (cf PassesOwn.never rfl (jY true true rfl T.b_zip ((jF (cr hr.units) (fD (a8 0)) (iT K (a8 1)) (λ_ _=>rfl))>=>(iT K (a8 1))>=>aC)) (dI rfl (bg (bD (i:=4) nO.nd rfl 0x8) (bg (bD (i:=5) nO.nd rfl 0x8) dL))) (@aK _ _ _ (fw (cr hr.units) (a8 3) (a8 4) (cD T.place_of Qd hr ((iY K (a8 2) (bO bP aF))>=>a8 5>=>aC)) 0x0))) hW2); ?_);let#[x,r,p,lv,fns,F,y,as,os,fs,f,rfl,hF,hm,hr_,hp_,hL,h10,hos,hn5,hp5,q]:=h;show#[_,(aH (pS 3 nO.nd (br (sY rfl) 0x0 T.b_dict kW ((dg (N':=["name"]) (js:=[none]) (by kernel_rfl) rfl (di (jF (cr hr.units) (fD (a8 0)) (iT K (a8 1)) (λ_ _=>rfl))) dD (λ_ _ _ _=>(bD (i:=0) (show(["name"]:List Str).Nodup by decide +kernel) rfl 0x8 (.inr rfl))) (λ_ _ _ _=>dC) (λ_ _ _ _=>(aj (a8 0>=>(aj (aU>=>aF>=>aC))>=>aC))))>=>aC))) hW1),?_];let#[l,ds,rfl,el,hd]:=hL;let#[ws,u,rfl,h1,dl,rfl,hdl]:=St.Ps.split1 hd;have lw:ws.length=fs.length:=Rk2.Ps.len h1;obtain⟨nl,⟨dx,fz,d0,kv0,g1,g2,g3,g4⟩,g5⟩:=tX hF hm;show#[5,x,t.bR,dx,9,g1,T.cw.cl,T.om,g2,5,r,35,hr_,25,jD g3 g4,nl,rfl,#[_,aE.of g5],λpL hpL=>iR (xs:=(F2.nms F).map V.str) (λi G v=>∃n,(F2.nms F)[i]?=⇑n/\jV G n v) (λi v G G' s z242_=>by let#[n,a,b]:=z242_; show#[n,a,b*>s]) (by rw[JE]; lia) (aE.of g5) hpL ?_ ?_]
   . rintro i w_ G R_ hx sG ⟨acc,eacc⟩ kk;rw[JS,Jg] at hx;let#[n,hn,rfl]:=hx;show#[5,aZ,λb hb=>#[aZ,λa ha=>kk _ _ ((aA.new hb)\(aA.new ha)) #[n,hn,a,b,rfl,?_,?_]]]
     . rw[bW (λz=>by rw[z,aA.new hb _ _ eacc] at ha; cases ha)]; exact aG
     . rw[bW (λz=>by rw[z,eacc] at hb; cases hb)]; exact aA.new ha _ _ aG
   rintro G vs sG eG lG tG;have hps:Rk2.Ps (jV G) vs (F2.nms F):=Ps.of_at (by rw[lG,JE]) λi v n hv hn=>by let#[n',h1,h2]:=tG i v hv;rw[hn] at h1;cases h1;exact h2*>cZ
   let#[aa,kvs,rfl,z1,z2,z3]:=xt (K:=K) (ab:=t.bT) hps;show#[pL,aa,kvs,rfl,aE.of eG,z1,∅,λd hd_=>?_];have sd:=aA.new (o:=.dK (kvs.foldl 0x2 [])) hd_;have e1:upd G d (.dK (kvs.foldl 0x2 [])) d=_:=aG;have hlv:gn K t.bT (upd G d (.dK (kvs.foldl 0x2 []))) (kvs.foldl 0x2 []) (lk (F2.nms F) (List.replicate (F2.nms F).length ⇑(.num 0))):=(F9 λn hn=>z3 [] n (.inl hn))*>sd;have ln:(kvs.foldl 0x2 []).length<=500:=by have:=sZ kvs []; simp at this; lia
   have s1:=sG\sd;generalize kvs.foldl 0x2 []=kv1 at sd e1 hlv ln s1 ⊢;generalize upd G d (.dK kv1)=H1 at sd e1 hlv s1 ⊢;let#[dx,fz,d0,kv0,g1,g2,g3,g4]:=FH (hF*>s1) hm;have hpr:=((hF*>s1).all F hm).pr;let#[la,hat]:=gr hos;have nd:H d=none:=sG.free hd_;show#[5,x,t.bR,dx,9,g1,T.cw.cl,T.t9,g2,5,r,35,s1<*hr_,25,jD g3 g4,5,r,35,s1<*hr_,rfl,F.pa,p,rfl,#[_,hpr],#[_,s1<*hp_],(let Jv1:Nat->St->Hp->Prop:=λi σ G=>∃(v4 v5:JK V) (kvs:List (aI×V)),σ=[⇑↥x,⇑↥r,⇑↥l,⇑↥d,v4,v5]/\aA H G/\G d=⇑(.dK kvs)/\kvs.length<=500+i/\gn K t.bT G kvs (gp f (lk (F2.nms F) (List.replicate (F2.nms F).length ⇑(.num 0))) ((F.ps.zip as).take i)); lK (b1:=true) (b2:=true) (xs:=F.ps.map V.str) (ys:=as) Jv1 #[4,kv1,rfl,s1,e1,ln,hlv] ?_ ?_ ?_)]
   . rintro i σ G2 hi ⟨v4,v5,kv2,rfl,s2,e2,l2,hl2⟩;show#[s2<*(hF.all F hm).pr,s2<*hp_]
   . rintro i w_ a σ G2 b hx hy ⟨v4,v5,kv2,rfl,s2,e2,l2,hl2⟩ hb;rw[JS,Jg] at hx;let#[n,hn,rfl]:=hx;let#[o,ho,hpl]:=hat i a hy;have sb:=aA.new (o:=.tup [V.str n,a]) hb;have ip:i<F.ps.length:=(JH.mp hn).1;show#[b,5,aD.of aG,403,?_];generalize upd G2 b (.tup [V.str n,a])=G3 at sb ⊢;show#[21,l,35,aE.of ((s2\sb) _ _ el),cO _ _,5,(1000),dl,f,a,o,rfl,hdl*>(s2\sb),hpl,λv G4 s4 hv=>#[21,d,5,eK.k (k:=(Sum.inr n:aI)) ((sb\s4) _ _ e2) (Rk2.lt_line' ∅),?_]];have s24:=sb\s4;have e4:=s24 _ _ e2;show#[17,(s2\s24).upd nd,aG,by have:=u9 kv2 (Sum.inr n:aI) v; lia,?_]
     . rw[show(F.ps.zip as).take (i+1)=(F.ps.zip as).take i++[(n,a)] by rw[KE,show(F.ps.zip as)[i]?=⇑(n,a) from Jz.mpr #[hn,hy]]; rfl,DE,hpl];exact(hl2*>s24).put T.jJ e4 hv
   . rintro σ G2 ⟨v4,v5,kv2,rfl,s2,e2,l2,hl2⟩;rw[show(F.ps.zip as).take (min (F.ps.map V.str).length as.length)=F.ps.zip as by rw[JE,<- KZ,Jw]] at hl2;show#[21,cB,λp2 k2=>#[l,p2,19,(s2\(aA.new k2)) _ _ el,aG,bt (by rw[JF]; show ws.length+1+1<_; lia),λp3 k3=>?_]];have s3:=(aA.new (o:=.lst [V.ref d]) k2)\(aA.new (o:=.lst (ws++[V.ref dl]++[V.ref d])) k3);refine q _ _ (s2\s3) #[p3,5,aG,Rk2.Ps.app (Rk2.Ps.imp (λ_ _ z=>(z*>(s2\s3)).up #[]) hd) #[#[d,rfl,kv2,s3 _ _ e2,?_,hl2*>s3],trivial]];have:=JE V.str (as:=F.ps)
     lia
def Fi:FnScope ["call","back","levels"] ["call","back","levels"] (az pZ):=by walk_at "s"
def BK (T:Txt K mg t):FnOk P w K mg base CX0 2 t.yw t.A0 ["call","back","levels"] (BO K t):=by
 have Qh:=pE (P:=P) (w:=w) (base:=base) T;have Qd:=rA (P:=P) (w:=w) (base:=base) T;refine T.left_behind.F.ok Fi (λvs H Q E h=>?_) (λcdv A outer s H vs Q E hr h=>?_)
 . let#[_,_,_,_,_,_,_,_,_,_,_,rfl,_]:=h;rfl
 . let#[c,r,p,lv,y,g,a,o,fs,f1,f2,rfl,hc,hr_,hL,h10,ho,q]:=h;show#[_,(aH (@af _ _ _ _ (cD T.with_given Qh hr ((dG fZ (a8 2) dO (dB (bO bP aF)))>=>(iT K (a8 0))>=>(cD T.place_of Qd hr ((iY K (a8 2) (bO bP aF))>=>(iT K (a8 1))>=>aC))>=>aC))) ag),?_];let#[l,ds,rfl,el,hd]:=hL;let#[ws,u,rfl,h1,dl,rfl,hdl]:=St.Ps.split1 hd;show#[85,l,5,aE.of el,λp1 k1=>?_];rw[i'];have s1:=aA.new (o:=.lst ws) k1;have e1:upd H p1 (.lst ws) p1=_:=aG;generalize upd H p1 (.lst ws)=H1 at s1 e1 ⊢;show#[5,c,35,s1<*hc,53,l,35,aE.of (s1 _ _ el),cO _ _,5,r,35,s1<*hr_,rfl,(1000),dl,f2,a,o,rfl,hdl*>s1,ho,λv H2 s2 hv=>?_];show#[↥p1,v,y,fs,f1,o,rfl,#[p1,ws,rfl,s2 _ _ e1,Rk2.Ps.imp (λ_ _ z=>z*>(s1\s2)) h1],hv,h10,λlv' H3 s3 hl=>q lv' H3 ((s1\s2).trans s3) hl]
def uP:FnScope ["row","named","kind"] ["row","named"] (az kQ):=by walk_at "s"
def Dg (T:Txt K mg t):FnOk P w K mg base CX0 2 t.yO t.zS ["row","named"] (BL K t):=by
 have Qd:=rA (P:=P) (w:=w) (base:=base) T;refine T.asked_act.F.ok uP (λvs H Q E h=>?_) (λcdv A outer s H vs Q E hr h=>?_)
 . let#[_,_,_,_,_,_,rfl,_]:=h;rfl
 . skip
   refine lx ?_;intro XX;refine(let W4:TS:=_; have hW4:aY XX ((aV kQ).drop 4) W4:=(aH (ai (aS ak (a8 2) aU (aN _)) dZ ag) (aH (ai (aS ak (a8 2) aU (aN _)) (~~~(aj (aU>=>(iT K (a8 0))>=>(br fX 0x0 T.b_tuple fS ((dg (N':=["atom","named"]) (js:=[none,some 1]) (by kernel_rfl) rfl (kJ (iT K (a8 0))) dD (λ_ _ _ _=>(bD (i:=0) (show(["atom","named"]:List Str).Nodup by decide +kernel) rfl 0x8 (.inr rfl))) (λ_ _ _ _=>dC) (λ_ _ _ _=>(cD T.place_of Qd hr (a8 1>=>a8 0>=>aC))))>=>aC))>=>aC))) ag) dZ)); ?_);refine(let W2:TS:=_; have hW2:aY XX ((aV kQ).drop 2) W2:=(aH (ai (aS fT (a8 2) (aj (aU>=>aU>=>aC)) (by with_unfolding_all rfl)) dZ ag) (aH (ai (aS ak (a8 2) aU (aN _)) dZ ag) hW4)); ?_);let#[r,d,rg,f,b0,cs,rfl,hR,hrp,hL,ha,oks,hl3,q]:=h;show#[_,(aH (pS 2 uP.nd (iT K (a8 0))) (aH (ai (aS fT (a8 2) (aj (aU>=>aU>=>aC)) (by with_unfolding_all rfl)) (~~~(aj (a8 2>=>(cD T.place_of Qd hr (a8 1>=>(iT K (a8 0))>=>aC))>=>aC))) ag) hW2)),?_];cases rg with
   | back a =>
     have ha:(cz f a).map (λo=>[C5.s "back",.p o])=⇑cs:=ha;let#[o,ho,rfl]:=Jg.mp ha;show#[5,r,35,hR,at0,?_];show#[5,aZ,λp1 h1=>#[p1,5,.inr (aD.of aG),29,aL #[] ?_]];have s1:=aA.new (o:=.tup [V.str "out",V.str "back"]) h1;show#[85,r,35,s1<*hR,rfl,b0,d,f,a,o,rfl,hL*>s1,ho,λv H3 s3 hv=>#[aZ,λp3 h3=>q p3 _ _ ((s1\s3).trans (aA.new h3)) (aD.of aG) #[rfl,hv*>(aA.new h3),trivial]]]
   | call y g p as =>
     have ha:(df f as).map (λos=>[C5.s "call",.s g,.t os])=⇑cs:=ha;let#[os,ho,rfl]:=Jg.mp ha;let#[la,hat]:=gr ho;let#[hp,h100]:=hrp y g p as rfl;show#[5,r,35,hR,at0,?_];show#[5,aZ,λp1 h1=>#[p1,5,.inr (aD.of aG),29,jN ?_]];show#[5,aZ,λp2 h2=>#[p2,5,.inr (aD.of aG),29,jN ?_]];have s2:=(aA.new (o:=.tup [V.str "out",V.str "back"]) h1)\(aA.new (o:=.tup [V.str "if",V.str "while"]) h2);generalize upd (upd H p1 (.tup [V.str "out",V.str "back"])) p2 (.tup [V.str "if",V.str "while"])=H2 at s2 ⊢;show#[45,jN #[45,jN #[45,aL (JG rfl) #[5,r,35,s2<*hR,13,r,35,s2<*hR,rfl,p,rfl,#[_,s2<*hp],λpL hpL=>pq (xs:=as) (λi G v=>∃o,os[i]?=⇑o/\VB K t.bT G o v) (λi v G G' s z243_=>by let#[o,a,b]:=z243_; show#[o,a,b*>s]) ∅ (s2<*hp) hpL ?_ ?_]]]]
     . rintro i a G R_ hx sG ⟨acc,eacc⟩ kk;let#[o,h1,h2]:=hat i a hx;show#[21,b0,d,f,a,o,rfl,hL*>(s2\sG),h2,λv G' s' hv=>kk _ _ s' #[o,h1,Ch T.jJ (s' _ _ eacc) hv]]
     . rintro G vs sG eG lG tG;have hps:Rk2.Ps (VB K t.bT G) vs os:=Ps.of_at ∅ λi v o hv ho=>by let#[o',h1,h2]:=tG i v hv;rw[ho] at h1;cases h1;exact h2*>cZ
       show#[pL,5,.inl #[aE.of eG,λtp k=>#[cn,λp3 h3=>?_]]];have s4:=(aA.new (o:=.tup vs) k)\(aA.new (o:=.tup [V.str "call",V.str g,V.ref tp]) h3);exact q p3 _ _ ((s2\sG).trans s4) (aD.of aG) #[7,#[tp,vs,rfl,aD.of (aA.new h3 _ _ aG),Rk2.Ps.imp (λ_ _ z=>z*>s4) hps],trivial]
   | _=>cases ha
def lF:FnScope ["spot","sets","act","news","filled"] ["spot"] (az kO):=by walk_at "s"
def IB (T:Txt K mg t):FnOk P w K mg base CX0 1 t.yR t.zV ["spot"] (Av K t):=by
 refine T.boxes_behind.F.ok lF (λvs H Q E h=>?_) (λcdv A outer s H vs Q E hr h=>?_)
 . let#[_,_,_,_,_,rfl,_]:=h;rfl
 . skip
   refine lx ?_;intro XX;refine(let W4:TS:=_; have hW4:aY XX ((aV kO).drop 4) W4:=(~~~(a8 3)); ?_);refine(let W2:TS:=_; have hW2:aY XX ((aV kO).drop 2) W2:=(aH (pS 4 lF.nd (@jR _ _ _ _ _ _ _ _ (aS FB (iT K (a8 2)) (jk T.zE) (by with_unfolding_all rfl)) (iX K (a8 2) (dj Ev (jk T.zE) (iT K (a8 2)) (λ_ _=>rfl))) fi)) (aH (ai (fW (iV (a8 4))) (@aK _ _ _ (fw (cr hr.units) (a8 3) (a8 4) (jk T.zD) 0x0)) ag) hW4)); ?_);let#[v,ps,a,as,fb,rfl,hS,ha,hf,h10,hnb,q]:=h;show#[_,(aH (fJ (a8 0) (dI rfl (bg (bD (i:=1) lF.nd rfl 0x8) (bg (bD (i:=2) lF.nd rfl 0x8) dL)))) (aH (pS 3 lF.nd (br (sY rfl) 0x0 T.b_dict kW (a8 1>=>aC))) hW2)),?_];let#[p,l,xs,rfl,hp,hl,hxs]:=hS;let#[as',kvs,rfl,z1,z2,z3]:=wv hxs;let#[k,r,rfl,hk]:=hf;show#[5,p,5,hp,403,?_];show#[5,l,as',kvs,rfl,hl,z1,∅,λd hd=>?_];have s1:=aA.new (o:=.dK (kvs.foldl 0x2 [])) hd;have e1:upd H d (.dK (kvs.foldl 0x2 [])) d=_:=aG;have nv:=NB.of_nv (K:=K) (ab:=t.bT) (λk u e=>Ie hnb k u e) (z3 _ [] (λ_=>none) s1 (λ_=>rfl));generalize upd H d (.dK (kvs.foldl 0x2 []))=H1 at s1 e1 nv ⊢;have no:fb=none->Q ↥d H1:=λe=>q d _ H1 s1 e1 (by rw[e]; show NB K t.bT H1 _ (bZ (ps++[])); rw[K5]; exact nv);have yes:∀i,fb=⇑i->Q ↥d (upd H1 d (.dK (ae (kvs.foldl 0x2 []) (Sum.inl i:aI) ↥t.bT))):=λi e=>by have s2:aA H (upd H1 d (.dK (ae (kvs.foldl 0x2 []) (Sum.inl i:aI) ↥t.bT))):=s1.upd hd;refine q d _ _ s2 aG ?_;rw[e,vB];exact NB.put (Iv (T.jJ) e1 nv) (.inl #[7,T.jJ _])
   have ln:(kvs.foldl 0x2 []).length<=kvs.length:=by have:=sZ kvs []; simpa using this
   rcases hk with⟨hk,hfb⟩|⟨rfl,b_,r',rfl,hb⟩
   . show#[5,a,35,s1<*ha,at0,t.mJ,_,k,7,T.tI,5,aX (by rw[hk]; exact Je) ?_];show#[21,jN #[5,no hfb]]
   . show#[5,a,35,s1<*ha,at0,t.mJ,_,"wait",7,T.tI,5,iP ?_];show#[21,a,35,s1<*ha,at0,t.mJ,_,"wait",(1),7,T.tI,rfl,a,4,b_,7,s1<*ha,bf (j:=1) rfl,21,?_];rcases hb with⟨rfl,hfb⟩|⟨i,rfl,hfb⟩
     . exact jN #[5,no hfb]
     . exact aL 0x0 #[21,d,5,eK.k (k:=(Sum.inl i:aI)) e1 (Rk2.lt_line' ∅),5,yes i hfb]
def Dv:FnScope ["self","flows","spots","marks","k"] ["self","flows","spots","marks","k"] (az gY):=by walk_at "s"
def ES (T:Txt K mg t):FnOk P w K mg base CX0 2 t.yK t.zN ["self","flows","spots","marks","k"] (Am K t):=by
 have Qk:=uG (P:=P) (w:=w) (base:=base) T;have QC:=IB (P:=P) (w:=w) (base:=base) T;have Ql:=xH (P:=P) (w:=w) (base:=base) T;refine T.yD.F.ok Dv (λvs H Q E h=>?_) (λcdv A outer s H vs Q E hr h=>?_)
 . let#[_,_,_,_,_,_,_,_,_,_,_,_,_,_,_,_,_,_,rfl,_]:=h;rfl
 . skip
   refine lx ?_;intro XX;refine(let W7:TS:=_; have hW7:aY XX ((aV gY).drop 7) W7:=(@aK _ _ _ (dw (a8 0) (cD T.boxes_behind QC hr ((iY K (a8 2) (a8 4))>=>aC)) 0x0)); ?_);refine(let W6:TS:=_; have hW6:aY XX ((aV gY).drop 6) W6:=(aH (dw (a8 0) (fe (a8 1) T.cw.cl T.mG.m Ql (hr*>#[]) T.mG.b .nil eO ((iX K (fD (a8 0)) (bO bP aF))>=>aC)) 0x0) hW7); ?_);refine(let W5:TS:=_; have hW5:aY XX ((aV gY).drop 5) W5:=(aH (dw (a8 0) (cD T.levels_of Qk hr (a8 1>=>(iY K (a8 3) (a8 4))>=>aC)) 0x0) hW6); ?_);refine(let W4:TS:=_; have hW4:aY XX ((aV gY).drop 4) W4:=(aH (dw (a8 0) (iT K (iY K (a8 3) (a8 4))) 0x0) hW5); ?_);refine(let W3:TS:=_; have hW3:aY XX ((aV gY).drop 3) W3:=(aH (dw (a8 0) (iT K (iY K (a8 2) (a8 4))) 0x0) hW4); ?_);refine(let W2:TS:=_; have hW2:aY XX ((aV gY).drop 2) W2:=(aH (dw (a8 0) (a8 3) 0x0) hW3); ?_);refine(let W1:TS:=_; have hW1:aY XX ((aV gY).drop 1) W1:=(aH (dw (a8 0) (a8 2) 0x0) hW2); ?_);let#[x,dx,fl,sp,mk,a,k,fns,svs,mvs,ks,Ms,L0,e,ps,as,v,fb,rfl,hx,hT,hM,hv,hS,ha,hf,h10,hnb,hno,q]:=h;show#[_,(aH (dw (a8 0) (a8 1) 0x0) hW1),?_];let#[p,l,xs,rfl,hp,hl,hxs]:=id hS;have kM:k<Ms.length:=(JH.mp hM).1;let#[mv,Lk,m1,m2,m3]:=Rk2.Ps.at hT.ms (n:=k) kM;rw[hM] at m2;cases m2;let#[mp,cv,mw,ws,rfl,hmp,hch,_]:=id m3;have s0:aA (ers x H) H:=cZ;show#[21,x,t.aR,dx,5,hx,T.aw.cl,T.kG,(by show 0<1000; decide),?_];have l1:=fI "flows" (V.ref fl) [] 0 (JN _);show#[21,x,t.aR,dx,5,aG,T.aw.cl,T.AV,∅,?_];have l2:=fI "spots" (V.ref sp) _ 1 l1;show#[21,x,t.aR,dx,5,aG,T.aw.cl,T.tF,∅,?_];have l3:=fI "marks" (V.ref mk) _ 2 l2;have s3:=fh (o:=.ins t.aR dx 0x4) (fh (o:=.ins t.aR dx (aQ "spots" (V.ref sp) (aQ "flows" (V.ref fl) []))) (fh (o:=.ins t.aR dx (aQ "flows" (V.ref fl) [])) s0));have e3:upd (upd (upd H x (.ins t.aR dx (aQ "flows" (V.ref fl) []))) x (.ins t.aR dx (aQ "spots" (V.ref sp) (aQ "flows" (V.ref fl) [])))) x (.ins t.aR dx 0x4) x=⇑(.ins t.aR dx 0x4):=aG;generalize upd (upd (upd H x (.ins t.aR dx (aQ "flows" (V.ref fl) []))) x (.ins t.aR dx (aQ "spots" (V.ref sp) (aQ "flows" (V.ref fl) [])))) x (.ins t.aR dx 0x4)=H3 at s3 e3 ⊢;show#[21,sp,35,s3.seq hT.s,bf hv,p,35,s3<*hp,13,x,t.aR,dx,5,e3,T.aw.cl,T.cj,∅,?_];have l4:=fI "act" (V.ref a) _ 3 l3;have s4:=fh (o:=.ins t.aR dx (aQ "act" (V.ref a) 0x4)) s3;show#[21,mk,35,s4.seq hT.m,bf m1,mp,35,s4<*hmp,at0,5,x,t.aR,dx,5,aG,T.aw.cl,T.iA,∅,?_];have l5:=fI "chain" cv _ 4 l4;have s5:=fh (o:=.ins t.aR dx (aQ "chain" cv (aQ "act" (V.ref a) 0x4))) s4;have hLk:=hT.l _ (JM hM);show#[85,mk,35,s5.seq hT.m,bf m1,fl,↥mp,fns,L0++[e],rfl,hT.f*>s5,m3*>s5,hLk.2,hLk.1,λav H6 s56 hA=>?_];have s6:=s5\s56;have e6:=s56 _ _ aG;show#[5,x,t.aR,dx,5,e6,T.aw.cl,T.il,∅,?_];have l6:=fI "ahead" av _ 5 l5;have hA6:=Hj T.jJ e6 (Eh (K:=K) (ab:=t.bT) hLk.2 hno hA.old);have s67:aA (ers x H6) (upd H6 x (.ins t.aR dx (aQ "ahead" av (aQ "chain" cv (aQ "act" (V.ref a) 0x4))))):=rL;have s7:=fh (o:=.ins t.aR dx (aQ "ahead" av (aQ "chain" cv (aQ "act" (V.ref a) 0x4)))) s6;have e7:upd H6 x (.ins t.aR dx (aQ "ahead" av (aQ "chain" cv (aQ "act" (V.ref a) 0x4)))) x=⇑(.ins t.aR dx (aQ "ahead" av (aQ "chain" cv (aQ "act" (V.ref a) 0x4)))):=aG;generalize upd H6 x (.ins t.aR dx (aQ "ahead" av (aQ "chain" cv (aQ "act" (V.ref a) 0x4))))=H7 at s67 s7 e7 ⊢;have hch':cX K (ers x H) ((L0++[e]).map Lev.fr) cv:=hch;let#[cA,cs,rfl,hcs,hcp]:=id hch';rw[JL] at hcp;obtain⟨cs',u,rfl,-,fa,rfl,hfa⟩:=St.Ps.split1 (t:=e.fr) hcp;have oke:=hLk.2 e (Jq _ JZ);obtain⟨w,hw⟩:∃w,e.F.rs[e.r]?=⇑w:=#[_,JU oke.r]
   have hF7:=hT.f*>s7;let#[dy,fz,d,kv,nl,wl,h0,hO,_]:=hF7.ob;show#[5,fl,dy,5,hO.ob,0x0,5,x,t.aR,dx,9,e7,T.aw.cl,T.iA,0x0,5,cA,35,s7<*hcs,cO _ _,fl,fa,fns,e.F,e.r,w,rfl,hF7,oke.m,s7<*hfa,hw,5,x,t.aR,dx,5,e7,T.aw.cl,T.fB,∅,?_];have l7:=fI "row" (V.ref w.r) _ 6 l6;have s8:=fh (o:=.ins t.aR dx (aQ "row" (V.ref w.r) (aQ "ahead" av (aQ "chain" (V.ref cA) (aQ "act" (V.ref a) 0x4))))) s7;have s68:=fh (o:=.ins t.aR dx (aQ "row" (V.ref w.r) (aQ "ahead" av (aQ "chain" (V.ref cA) (aQ "act" (V.ref a) 0x4))))) s67;show#[21,sp,35,s8.seq hT.s,bf hv,↥p,ps,a,as,fb,rfl,hS*>s8,s8<*ha,hf,h10,hnb,λd' kvs H9 s89 e9 nv=>?_];have e9x:=s89 _ _ aG;show#[5,x,t.aR,dx,5,e9x,T.aw.cl,T.AU,∅,?_];have sF:=fh (o:=.ins t.aR dx (aQ "news" ↥d' (aQ "row" (V.ref w.r) (aQ "ahead" av (aQ "chain" (V.ref cA) (aQ "act" (V.ref a) 0x4)))))) (s8\s89);refine q #[fl,sp,mk,a,w.r,d',↥cA,av] _ sF #[#[dx,aG],hT*>sF,sF<*ha,hch'*>sF,hA6*>(fh (s68\s89)),hLk.2,?_,#[w,hw,rfl],kvs,rL _ _ (jZ e9x e9 (λ_ _ _ y=>by cases y)),(Cq T.jJ e9x nv)*>rL];have:=hLk.1;rw[JF] at this;simp at this
   lia
def lh:FnScope ["self","k","chain","levels","shown","behind","name","place"] ["self","k","chain","levels"] (az lP):=by walk_at "s"
def ur (T:Txt K mg t):FnOk P w K mg base CX0 14 t.yM t.zQ ["self","k","chain","levels"] (HM K t):=by
 have Qk:=uG (P:=P) (w:=w) (base:=base) T;have Qg:FnOk P w K mg base CX0 13 t.oY t.oh ["one","news"] (pj K t 10):=xT T 10;refine T.mI.F.ok lh (λvs H Q E h=>?_) (λcdv A outer s H vs Q E hr h=>?_)
 . let#[_,_,_,_,_,_,_,_,rfl,_]:=h;rfl
 . skip
   refine lx ?_;intro XX;refine(let W2:TS:=_; have hW2:aY XX ((aV lP).drop 2) W2:=(~~~dr); ?_);refine(let W1:TS:=_; have hW1:aY XX ((aV lP).drop 1) W1:=(aH (cf PassesOwn.never rfl (jY false false rfl T.b_zip ((cD T.levels_of Qk hr ((fD (a8 0))>=>(iY K (fD (a8 0)) (a8 1))>=>aC))>=>a8 3>=>aC)) (dI rfl (bg (bD (i:=4) lh.nd rfl 0x8) (bg (bD (i:=5) lh.nd rfl 0x8) dL))) (@aK _ _ _ (cf PassesOwn.never rfl (pO (a8 4)) (dI rfl (bg (bD (i:=6) lh.nd rfl 0x8) (bg (bD (i:=7) lh.nd rfl 0x8) dL))) (@aK _ _ _ (ai (@PW.pt _ _ _ (dJ (fW (iV (a8 7))) (dY (aS (i3 hr.units) (cD T.put_through Qg hr (a8 7>=>(fD (a8 0))>=>aC)) (jF (cr hr.units) (a8 5) (a8 6) (λ_ _=>rfl)) (aN _))))) (~~~dr) ag))))) hW2); ?_);let#[x,A_,k,L,ch,fs,cv,lv,rfl,hA,hO,hL,hC,hV,hB,q]:=h;show#[_,(aH (ai (aS (i3 hr.units) (iT K (iY K (fD (a8 0)) (a8 1))) (a8 2) (aN _)) (~~~dr) ag) hW1),?_];let#[dx,ob]:=hA.ob;let#[mv,L',a1,a2,hM]:=Rk2.Ps.at hA.tb.ms (n:=k) (JH.mp hL).1;rw[hL] at a2;cases a2;let#[mp,mc,w_,ws,rfl,hmp,hmc,hmw,hmws]:=id hM;have hLk:=hA.tb.l L (JM hL);have hn1:∀c∈L.map Lev.fr,PyData.strOk c.1=true:=λc hc=>by let#[e,he,rfl]:=Jh.mp hc;exact hO.n _ (hLk.2 e he).m
   show#[5,x,t.aR,dx,9,ob,T.aw.cl,T.tF,0x0,5,A_.S.mt,35,hA.tb.m,bf a1,mp,35,hmp,at0,5,wm hn1 hB.n hmc hC #[5,?_]];have eS:gV (bZ A_.ps) L ch fs=(decide (L.map Lev.fr=ch)&&(L.zip fs).all λeb=>fM (bZ A_.ps) eb.1 eb.2):=rfl;by_cases hch:L.map Lev.fr=ch
   case neg =>
     rw[JP hch] at eS ⊢;rw[eS] at q;exact aL rfl (q H (aA.refl _))
   rw[JG hch,K3] at eS;rw[eS] at q;rw[JG hch];have gok:=rY hO.g;let#[kg,eg,nvg]:=hA.nw;refine jN #[5,x,t.aR,dx,9,ob,T.aw.cl,T.kG,0x0,5,x,t.aR,dx,9,ob,T.aw.cl,T.tF,0x0,5,A_.S.mt,35,hA.tb.m,bf a1,A_.S.fl,↥mp,A_.fns,L,rfl,hA.tb.f,hM,hLk.2,hLk.1,λlv1 H1 s1 hN=>?_];let#[l1,ds,rfl,e1,hds]:=hN;let#[l2,ds2,rfl,e2,hds2]:=hV;show#[5,l1,l2,rfl,#[_,aE.of e1],#[_,aE.of (s1 _ _ e2)],(let Jv1:Nat->St->Hp->Prop:=λi σ G=>∃v4 v5 v6 v7:JK V,σ=[⇑↥x,⇑(.int (k:Int)),⇑cv,⇑↥l2,v4,v5,v6,v7]/\cK H H1 G/\∀j eb,j<i->(L.zip fs)[j]?=⇑eb->fM (bZ A_.ps) eb.1 eb.2=true; lK (b1:=false) (b2:=false) (xs:=ds) (ys:=ds2) Jv1 #[33,cK.of (aA.refl _),λj eb hj=>absurd hj (K9 j)] ?_ ?_ ?_)]
   . rintro i σ G hi ⟨v4,v5,v6,v7,rfl,fz,hb⟩;show#[aE.of (fz.lst e1),aE.of (fz.same s1 _ _ e2)]
   . rintro i y z σ G b hy hz ⟨v4,v5,v6,v7,rfl,fz,hb⟩ nb;have iL:i<L.length:=by have:=(JH.mp hy).1; have:=Rk2.Ps.len hds; lia
     have iF:i<fs.length:=by have:=(JH.mp hz).1; have:=Rk2.Ps.len hds2; lia
     let#[u1,e,b1,b2,d,us,rfl,n0,ed,hus]:=Rk2.Ps.at hds (n:=i) iL;rw[hy] at b1;cases b1;let#[u2,f,c1,c2,d2,rfl,kv2,ed2,hk2,hf2]:=Rk2.Ps.at hds2 (n:=i) iF;rw[hz] at c1;cases c1;have oke:=hLk.2 e (JM b2);have fz1:=fz\(aA.new (o:=.tup [V.ref d,V.ref d2]) nb);show#[b,5,aD.of aG,403,?_];generalize upd G b (.tup [V.ref d,V.ref d2])=G1 at fz1 ⊢;show#[5,F3 fz1 n0 ed λo G2 fz2 ed2'=>qu (o:=o) (d:=d) (kvs:=kz (F2.nms e.F) us) (λj σ G3=>∃v6 v7:JK V,σ=[⇑↥x,⇑(.int (k:Int)),⇑cv,⇑↥l2,⇑↥d,⇑↥d2,v6,v7]/\cK H H1 G3/\G3 d=⇑(.frz o (.dK (kz (F2.nms e.F) us)))/\∀j' nv,j'<j->((F2.nms e.F).zip e.vw)[j']?=⇑nv->iE (bZ A_.ps) f nv.1 nv.2=true) #[9,fz2,ed2',λj nv hj=>absurd hj (K9 j)] ?_ ?_ ?_]
     . rintro j σ G3 hj ⟨v6,v7,rfl,fz3,z3,h3⟩;exact z3
     . rintro j kv σ G3 b3 hkv ⟨v6,v7,rfl,fz3,z3,h3⟩ nb3;let#[n,pl,u,rfl,hz3,hu]:=GI hus hkv;have nm:n∈F2.nms e.F:=(LA (JM hz3)).1;have vm:pl∈e.vw:=(LA (JM hz3)).2;let#[o2,ho2,hok2]:=hB.l i e.fr f (by rw[<- hch,JS,b2]; rfl) c2 e.F oke.m rfl n nm;have s4:=aA.new (o:=.tup [V.str n,u]) nb3;have fz4:=fz3\s4;have z4:=s4 _ _ z3;show#[b3,5,aD.of aG,403,?_];have hu4:=fz4.vat hu;have step:∀G5,cK H H1 G5->G5 d=⇑(.frz o (.dK (kz (F2.nms e.F) us)))->iE (bZ A_.ps) f n pl=true->∃v6 v7:JK V,[⇑↥x,⇑(.int (k:Int)),⇑cv,⇑↥l2,⇑↥d,⇑↥d2,⇑(.str n),⇑u]=[⇑↥x,⇑(.int (k:Int)),⇑cv,⇑↥l2,⇑↥d,⇑↥d2,v6,v7]/\cK H H1 G5/\G5 d=⇑(.frz o (.dK (kz (F2.nms e.F) us)))/\∀j' nv,j'<j+1->((F2.nms e.F).zip e.vw)[j']?=⇑nv->iE (bZ A_.ps) f nv.1 nv.2=true:=λG5 f5 d5 h5=>#[9,f5,d5,λj' nv hj' hn=>by
         rcases Km.mp hj' with h|h
         . exact h3 j' nv h hn
         . subst h;rw[hz3] at hn;cases hn;exact h5]
       cases pl with
       | none =>
         cases hu4;show#[21,aX 0x6 (aX 0x6 ?_)];exact step _ fz4 z4 rfl
       | some tr =>
         have tok:=(hO.v L (JM hL) e (JM b2) tr vm).1; have nob:=(hO.v L (JM hL) e (JM b2) tr vm).2
         show#[21,aL (by let#[p,rfl]:=hU hu4; rfl) ?_];have s04:=fz4.same s1;show#[21,x,t.aR,dx,9,s04 _ _ ob,T.aw.cl,T.AU,0x0,tr,u,A_.S.d,kg,bZ A_.ps,rfl,tok.2.2,nob,hu4,s04 _ _ eg,nvg*>s04,tok.1,(λk t h=>(gok k t h).1),λv5 G5 s5 hv5=>?_];have fz5:=fz4\s5;let#[v6,g6,hv6]:=hf2 n o2 ho2;show#[21,d2,5,jD (fz5.same s1 _ _ ed2) g6,Fq (o:=o2) (Bd gok tok) hok2 hv5 (hv6*>(fz5.same s1)) #[5,?_]];have eP:iE (bZ A_.ps) f n ⇑tr=gu (Rk2.pt (bZ A_.ps) tr) o2:=by show(match f n with|some o=>_|none=>_)=_; rw[ho2]
         cases hE:gu (Rk2.pt (bZ A_.ps) tr) o2 with
         | true=>exact jN (step G5 fz5 (s5 _ _ z4) (eP\hE))
         | false =>
           refine aL rfl ?_;have:((L.zip fs).all λeb=>fM (bZ A_.ps) eb.1 eb.2)=false:=by rw[LP];show#[(e,f),JM (Jz.mpr #[b2,c2]),?_];show ¬ fM _ e f=true;rw[Bool.not_eq_true];unfold fM;rw[LP];show#[(n,⇑tr),JM hz3,by rw[eP\hE]; decide]
           rw[this] at q;exact q G5 (fz5.same s1)
     . rintro σ G3 ⟨v6,v7,rfl,fz3,z3,h3⟩;show#[33,fz3,λj eb hj hz4=>?_];rcases Km.mp hj with h|h
       . exact hb j eb h hz4
       . subst h;rw[Jz] at hz4;rw[b2,c2] at hz4;let#[y1,y2]:=hz4;cases y1;cases y2;show fM _ eb.1 eb.2=true;unfold fM;rw[Kh];intro nv hnv;let#[j',hj',e']:=L8 hnv;exact h3 j' nv (by rw[Hf hus]; exact hj') (by rw[<- e']; exact JU hj')
   . rintro σ G ⟨v4,v5,v6,v7,rfl,fz,hb⟩;have:((L.zip fs).all λeb=>fM (bZ A_.ps) eb.1 eb.2)=true:=by rw[Kh];intro eb heb;let#[j',hj',e']:=L8 heb;exact hb j' eb (by rw[Rk2.Ps.len hds,Rk2.Ps.len hds2]; rw[KZ] at hj'; exact hj') (by rw[<- e']; exact JU hj')
     rw[this] at q;exact q G (fz.same s1)
def CG:FnScope ["self","k"] ["self","k"] (az rD):=by walk_at "s"
def tQ (T:Txt K mg t):FnOk P w K mg base CX0 1 t.yL t.zP ["self","k"] (GB K t):=by
 refine T.mH.F.ok CG (λvs H Q E h=>?_) (λcdv A outer s H vs Q E hr h=>?_)
 . let#[_,_,_,_,rfl,_]:=h;rfl
 . let#[x,A_,k,kd,rfl,hA,hk,q]:=h;show#[_,(aH (@af _ _ _ _ (cW ak (iT K (iT K (iY K (fD (a8 0)) (a8 1)))) aU (aN _))) ag),?_];let#[dx,ob]:=hA.ob;let#[v,kd',a1,a2,p,l,a,r,rfl,h1,h2]:=Rk2.Ps.at hA.tb.ss (n:=k) (JH.mp hk).1;rw[hk] at a2;cases a2;show#[5,x,t.aR,dx,9,ob,T.aw.cl,T.AV,0x0,5,A_.S.sp,35,hA.tb.s,bf a1,p,35,h1,rfl,a,35,h2,at0,rfl,?_];rw[show decide (V.str kd=V.str "wait")=decide (kd="wait") from decide_eq_decide.mpr #[λz=>V.str.inj z,λz=>by rw[z]]];exact q
def DT:FnScope ["self","k","chain","levels"] ["self","k","chain","levels"] (az pG):=by walk_at "s"
def vF (T:Txt K mg t):FnOk P w K mg base CX0 15 t.yH t.zK ["self","k","chain","levels"] (HJ K t):=by
 have Qm:=ur (P:=P) (w:=w) (base:=base) T;have Qn:=tQ (P:=P) (w:=w) (base:=base) T;refine T.jI.F.ok DT (λvs H Q E h=>?_) (λcdv A outer s H vs Q E hr h=>?_)
 . let#[_,_,_,_,_,_,_,rfl,_]:=h;rfl
 . let#[x,A_,k,ch,fs,cv,lv,rfl,hA,hO,hL,hC,hV,hB,q]:=h;show#[_,(aH (@af _ _ _ _ (ig (Dk (fe (a8 0) T.aw.cl T.mH.m Qn (hr*>#[]) T.mH.b .nil eO (a8 1>=>aC))) (jv (fe (a8 0) T.aw.cl T.mI.m Qm (hr*>#[]) T.mI.b .nil eO (a8 1>=>a8 2>=>a8 3>=>aC))))) ag),?_];let#[dx,ob]:=hA.ob;obtain⟨kd,hkd⟩:∃kd,A_.ks[k]?=⇑kd:=#[_,JU (by rw[hO.l]; exact hL)]
   obtain⟨L,hLk⟩:∃L,A_.Ms[k]?=⇑L:=#[_,JU hL]
   have eA:gS A_ k ch fs=(!decide (kd="wait")&&gV (bZ A_.ps) L ch fs):=by unfold gS; rw[hkd,hLk]
   rw[eA] at q;show#[5,x,dx,5,ob,0x0,5,x,A_,k,kd,rfl,hA,hkd,21,?_];by_cases hw:kd="wait"
   . rw[JG hw] at q ⊢;exact jN (q H (aA.refl _))
   . rw[JP hw] at q ⊢;exact aL rfl #[5,x,dx,5,ob,0x0,85,x,A_,k,L,ch,fs,cv,lv,rfl,hA,hO,hLk,hC,hV,hB,λH' s'=>q H' s']
def Hn:FnScope ["self","k","levels"] ["self","k","levels"] (az rT):=by walk_at "s"
def uh (T:Txt K mg t):FnOk P w K mg base CX0 16 t.yI t.zL ["self","k","levels"] (Dl K t):=by
 have Qo:=wB (P:=P) (w:=w) (base:=base) T;have Qi:=vF (P:=P) (w:=w) (base:=base) T;refine T.sj.F.ok Hn (λvs H Q E h=>?_) (λcdv A outer s H vs Q E hr h=>?_)
 . let#[_,_,_,_,_,_,rfl,_]:=h;rfl
 . let#[x,A_,k,to_,fs,lv,rfl,hA,hO,hL,hW,hV,hB,q]:=h;show#[_,(aH (@af _ _ _ _ (fe (a8 0) T.aw.cl T.jI.m Qi (hr*>#[]) T.jI.b .nil eO (a8 1>=>(cD T.moved Qo hr ((fD (a8 0))>=>(fD (a8 0))>=>aF>=>aC))>=>a8 2>=>aC))) ag),?_];let#[dx,ob]:=hA.ob;have oke:=hA.ok A_.e (Jq _ JZ);have hch:cX K H (A_.L0.map Lev.fr++[(A_.e.F.name,A_.e.r)]) A_.S.cv:=by have:=hA.ch;rw[JL] at this;exact this
   show#[5,x,dx,5,ob,0x0,21,x,t.aR,dx,9,ob,T.aw.cl,T.kG,0x0,5,x,t.aR,dx,9,ob,T.aw.cl,T.iA,0x0,A_.S.fl,A_.S.cv,A_.fns,A_.L0.map Lev.fr,A_.e.F,A_.e.r,(0),to_,rfl,hA.tb.f,hch,oke.m,oke.r,hW,(by rw[JE]; exact hA.ln),λcv' H' s' hc'=>#[5,x,A_,k,_,fs,cv',lv,rfl,hA*>s',hO,hL,hc',hV*>s',hB,λH2 s2=>q H2 (s'\s2)]]
def nE:FnScope ["self","k","kind","outer","levels"] ["self","k"] (az mF):=by walk_at "s"
def Fe (T:Txt K mg t):FnOk P w K mg base CX0 17 t.yJ t.zM ["self","k"] (GH K t):=by
 have QD:=BK (P:=P) (w:=w) (base:=base) T;have Qh:=pE (P:=P) (w:=w) (base:=base) T;have QE:=Da (P:=P) (w:=w) (base:=base) T;have Qo:=wB (P:=P) (w:=w) (base:=base) T;have Qq:=uh (P:=P) (w:=w) (base:=base) T;have Qi:=vF (P:=P) (w:=w) (base:=base) T;have Ql:=xH (P:=P) (w:=w) (base:=base) T;refine T.sk.F.ok nE (λvs H Q E h=>?_) (λcdv A outer s H vs Q E hr h=>?_)
 . let#[_,_,_,_,_,rfl,_]:=h;rfl
 . skip
   refine lx ?_;intro XX;refine(let W4:TS:=_; have hW4:aY XX ((aV mF).drop 4) W4:=(aH (ai (@PW.pt _ _ _ (dJ (aS ak (a8 2) aU (aN _)) (dY (aS (bN j2) (bz 0x1 0x0 T.b_len cL ((fD (a8 0))>=>aC)) aF (aN _))))) (aH (pS 3 nE.nd (dG lj (fD (a8 0)) dO (dB (bO bP aF)))) (aH (pS 4 nE.nd (cD T.left_behind QD hr ((fe (fD (a8 0)) T.cw.cl T.mG.m Ql (hr*>#[]) T.mG.b .nil eO ((iX K (a8 3) (bO bP aF))>=>aC))>=>(fD (a8 0))>=>(fD (a8 0))>=>aC))) (~~~(fe (a8 0) T.aw.cl T.jI.m Qi (hr*>#[]) T.jI.b .nil eO (a8 1>=>(cD T.moved Qo hr ((fD (a8 0))>=>a8 3>=>aF>=>aC))>=>a8 4>=>aC))))) ag) (~~~dr)); ?_);refine(let W2:TS:=_; have hW2:aY XX ((aV mF).drop 2) W2:=(aH (ai (aS ak (a8 2) aU (aN _)) dZ ag) (aH (ai (aS ak (a8 2) aU (aN _)) (~~~(fe (a8 0) T.aw.cl T.jI.m Qi (hr*>#[]) T.jI.b .nil eO (a8 1>=>((show bU _ (binaryOp .Add) (sI K) from vG)<$>(fD (a8 0))<*>(aj ((aj ((iT K (fD (a8 0)))>=>aF>=>aC))>=>aC)))>=>(cD T.entered QE hr ((fD (a8 0))>=>(fD (a8 0))>=>(fD (a8 0))>=>aC))>=>aC))) ag) hW4)); ?_);let#[x,A_,k,rg,b,rfl,hA,hO,hR,hrp,has,hS,q]:=h;show#[_,(aH (pS 2 nE.nd (iT K (fD (a8 0)))) (aH (ai (aS fT (a8 2) (aj (aU>=>aU>=>aC)) (by with_unfolding_all rfl)) dZ ag) hW2)),?_];let#[dx,ob]:=hA.ob;let#[cA,cs,hcv,hcs,hcp]:=hA.ch;have lcs:=Rk2.Ps.len hcp;rw[JE,JF] at lcs;have lcs:cs.length=A_.L0.length+1:=lcs;have hln:=hA.ln;have bad:∀{kd:Str} {r1:List V},A_.as=.str kd::r1->¬ kd="go"->False:=λe n=>n (V.str.inj (List.cons.inj (e.symm\has)).1);have hkk:∀{k':Nat},A_.as=[.str "go",.int (k':Int)]->k'=k:=λe=>by rw[e] at has; cases has; rfl
   cases hS with
   | @ent k' y g p as os F e1 hk e2 hm hg hn5 hp5 hos hB =>
     obtain rfl:=hkk e1;subst e2;subst hg;have hp:=(hrp _ _ _ _ rfl).1;show#[5,x,t.aR,dx,9,ob,T.aw.cl,T.fB,0x0,A_.S.r,35,hR,at0,?_];show#[5,aZ,λp1 h1=>#[p1,5,.inr (aD.of aG),29,jN ?_]];have s1:=aA.new (o:=.tup [V.str "copy",V.str "op"]) h1;have ob1:=s1 _ _ ob;generalize upd H p1 (.tup [V.str "copy",V.str "op"])=H1 at s1 ob1 ⊢;show#[45,jN #[45,aL (JG rfl) #[5,x,dx,5,ob1,0x0,21,x,t.aR,dx,9,ob1,T.aw.cl,T.iA,0x0,5,x,t.aR,dx,9,ob1,T.aw.cl,T.fB,0x0,A_.S.r,35,s1<*hR,rfl,aZ,λq1 k1=>#[cB,λq2 k2=>?_]]]];rw[hcv];refine uj (((s1\(aA.new k1)).trans (aA.new k2))<*hcs) aG 0x6 (bt (by show cs.length+1<_; lia)) λp3 H3 s3 e3=>?_;have s12:=(aA.new (o:=.tup [V.str F.name,.int 0]) k1)\(aA.new (o:=.tup [V.ref q1]) k2);have eq1:=((aA.new (o:=.tup [V.ref q1]) k2)\s3) _ _ (show upd H1 q1 (.tup [V.str F.name,.int 0]) q1=_ from aG);have s03:=(s1\s12).trans s3;have ob3:=s03 _ _ ob;have hA3:=hA*>s03;have hal:=hA3.ah;rw[JL] at hal;show#[5,x,t.aR,dx,9,ob3,T.aw.cl,T.kG,0x0,5,x,t.aR,dx,9,ob3,T.aw.cl,T.fB,0x0,5,x,t.aR,dx,9,ob3,T.aw.cl,T.il,0x0,A_.S.fl,A_.S.r,p,A_.S.av,A_.fns,F,y,as,os,A_.L0.map Lev.lv,A_.e.lv,rfl,hA3.tb.f,hm,s03<*hR,s03<*hp,hal,(by rw[JE]; exact hln),hos,hn5,hp5,λlv' H4 s4 hl=>?_];show#[x,A_,k',(A_.L0++[A_.e]).map Lev.fr++[(F.name,0)],A_.fs++[iC (F2.nms F) F.ps A_.e.lv as],↥p3,lv',rfl,hA3*>s4,hO,hk,#[p3,5,aD.of (s4 _ _ e3),Rk2.Ps.app (Rk2.Ps.imp (λ_ _ z=>z*>(s03\s4)) hcp) #[#[q1,rfl,aD.of (s4 _ _ eq1)],trivial]],?_,hB,λH5 s5=>q H5 ((s03\s4).trans s5)];have:A_.fs=A_.L0.map Lev.lv++[A_.e.lv]:=by show(A_.L0++[A_.e]).map Lev.lv=_; rw[JL]; rfl
     rw[this];exact hl
   | @lev k' to_ a o L1 e1 c y g p as ea hk e2 hL0 hrc hci hpl hwy hB =>
     obtain rfl:=hkk ea;subst e2;have l0:A_.L0.length=L1.length+1:=by rw[hL0,JF]; rfl
     show#[5,x,t.aR,dx,9,ob,T.aw.cl,T.fB,0x0,A_.S.r,35,hR,at0,?_];show#[5,aZ,λp1 h1=>#[p1,5,.inr (aD.of aG),29,jN ?_]];have s1:=aA.new (o:=.tup [V.str "copy",V.str "op"]) h1;have ob1:=s1 _ _ ob;generalize upd H p1 (.tup [V.str "copy",V.str "op"])=H1 at s1 ob1 ⊢;show#[45,jN #[45,jN #[45,aL (JG rfl) #[5,x,t.aR,dx,9,ob1,T.aw.cl,T.iA,0x0,cA,_,JW (λz=>[z]) hcv,.inr (s1<*hcs),77,aL (JG ∅) #[5,x,t.aR,dx,9,ob1,T.aw.cl,T.iA,0x0,21,?_]]]]];rw[hcv];refine j9 (s1<*hcs) λqA H2 s2 hqA=>?_;have hcp':Rk2.Ps (cy K H) cs (L1.map Lev.fr++[e1.fr]++[A_.e.fr]):=by have:=hcp; rw[hL0,JL,JL] at this; exact this
     let#[ws,u,rfl,h1_,fb,rfl,hfb]:=St.Ps.split1 hcp';let#[ws',u',rfl,h2_,fa,rfl,hfa]:=St.Ps.split1 h1_;rw[i'] at hqA;have s02:=s1\s2;have ob2:=s02 _ _ ob;have hA2:=hA*>s02;let#[dxf,fz,d0,kv,nl,wl,h0,hOb,_]:=hA2.tb.f.ob;have cB:LevOk A_.fns e1:=hA.ok e1 (by rw[hL0]; simp);have hal:=hA2.ah;rw[JL,hL0,JL] at hal;show#[5,x,t.aR,dx,9,ob2,T.aw.cl,T.kG,0x0,A_.S.fl,dxf,5,hOb.ob,0x0,21,qA,35,hqA,cO _ _,A_.S.fl,fa,A_.fns,e1.F,e1.r,c,rfl,hA2.tb.f,cB.m,s02<*hfa,hrc,5,x,t.aR,dx,9,ob2,T.aw.cl,T.fB,0x0,5,x,t.aR,dx,9,ob2,T.aw.cl,T.il,0x0,c.r,A_.S.r,p,A_.S.av,y,g,a,o,L1.map Lev.lv,e1.lv,A_.e.lv,rfl,s02<*hci,s02<*hR,hal,(by rw[JE]; lia),hpl,λlv' H3 s3 hl=>?_];have s03:=s02\s3;have ob3:=s03 _ _ ob;have hA3:=hA*>s03;show#[5,x,dx,5,ob3,0x0,21,x,t.aR,dx,9,ob3,T.aw.cl,T.kG,0x0,5,A_.S.fl,↥qA,A_.fns,L1.map Lev.fr,e1.F,e1.r,(0),to_,rfl,hA3.tb.f,#[qA,5,s3<*hqA,Rk2.Ps.app (Rk2.Ps.imp (λ_ _ z=>z*>s03) h2_) #[#[fa,rfl,s03<*hfa],trivial]],cB.m,cB.r,hwy,(by rw[JE]; lia),λcv' H4 s4 hc=>#[5,x,A_,k',4,cv',lv',rfl,hA3*>s4,hO,hk,hc,hl*>s4,hB,λH5 s5=>q H5 ((s03\s4).trans s5)]]
   | @gb k' a ea hk e2 hL0 =>
     subst e2;rw[hL0] at lcs;show#[5,x,t.aR,dx,9,ob,T.aw.cl,T.fB,0x0,A_.S.r,35,hR,at0,?_];show#[5,aZ,λp1 h1=>#[p1,5,.inr (aD.of aG),29,jN ?_]];have s1:=aA.new (o:=.tup [V.str "copy",V.str "op"]) h1;have ob1:=s1 _ _ ob;generalize upd H p1 (.tup [V.str "copy",V.str "op"])=H1 at s1 ob1 ⊢;show#[45,jN #[45,jN #[45,aL (JG rfl) #[5,x,t.aR,dx,9,ob1,T.aw.cl,T.iA,0x0,cA,_,JW (λz=>[z]) hcv,.inr (s1<*hcs),77,aX (λz=>by have:=Ke z; rw[lcs] at this; revert this; decide) (q _ s1)]]]]
   | wt ea=>exact(bad ea 0x3).elim
   | ne ea nw ng=>exact(bad ea ng).elim
   | bk ea=>exact(bad ea 0x3).elim
   | ca ea=>exact(bad ea 0x3).elim
def wk:FnScope ["self","asked"] ["self"] (az iQ):=by walk_at "s"
def Hq (T:Txt K mg t):FnOk P w K mg base CX0 18 t.yN t.zR ["self"] (GM K t):=by
 have QF:=Dg (P:=P) (w:=w) (base:=base) T;have Qh:=pE (P:=P) (w:=w) (base:=base) T;have Qq:=uh (P:=P) (w:=w) (base:=base) T;have QG:=Fe (P:=P) (w:=w) (base:=base) T;have Qn:=tQ (P:=P) (w:=w) (base:=base) T;have Qm:=ur (P:=P) (w:=w) (base:=base) T;refine T.sr.F.ok wk (λvs H Q E h=>?_) (λcdv A outer s H vs Q E hr h=>?_)
 . let#[_,_,_,_,rfl,_]:=h;rfl
 . skip
   refine lx ?_;intro XX;refine(let W5:TS:=_; have hW5:aY XX ((aV iQ).drop 5) W5:=(aH (ai (aS ak (iT K (fD (a8 0))) aU (aN _)) (~~~(ig (fe (a8 0) T.aw.cl T.mH.m Qn (hr*>#[]) T.mH.b .nil eO ((iT K (fD (a8 0)))>=>aC)) (jv (fe (a8 0) T.aw.cl T.mI.m Qm (hr*>#[]) T.mI.b .nil eO ((iT K (fD (a8 0)))>=>(fD (a8 0))>=>(fD (a8 0))>=>aC))))) ag) dZ); ?_);refine(let W4:TS:=_; have hW4:aY XX ((aV iQ).drop 4) W4:=(aH (ai (aS ak (iT K (fD (a8 0))) aU (aN _)) (~~~(cW ak (bz 0x1 0x0 T.b_len cL ((fD (a8 0))>=>aC)) aF (aN _))) ag) hW5); ?_);refine(let W3:TS:=_; have hW3:aY XX ((aV iQ).drop 3) W3:=(aH (ai (aS (i3 hr.units) (dG lj (fD (a8 0)) dO (dB (bz 0x1 0x0 T.b_len cL (a8 1>=>aC)))) (a8 1) (aN _)) (~~~dr) ag) hW4); ?_);refine(let W2:TS:=_; have hW2:aY XX ((aV iQ).drop 2) W2:=(aH (pS 1 wk.nd (cD T.asked_act QF hr ((fD (a8 0))>=>(iY K (fD (a8 0)) (bO bP aF))>=>aC))) hW3); ?_);refine(let W1:TS:=_; have hW1:aY XX ((aV iQ).drop 1) W1:=(aH (ai (aS ak (iT K (fD (a8 0))) aU (aN _)) (~~~(fe (a8 0) T.aw.cl T.sk.m QG (hr*>#[]) T.sk.b .nil eO ((iT K (fD (a8 0)))>=>aC))) ag) hW2); ?_);let#[x,A_,rg,b,rfl,hA,hO,hR,hrp,hS,q]:=h;show#[_,(aH (ai (aS ak (iT K (fD (a8 0))) aU (aN _)) (~~~(fe (a8 0) T.aw.cl T.sj.m Qq (hr*>#[]) T.sj.b .nil eO ((iT K (fD (a8 0)))>=>(cD T.with_given Qh hr ((fD (a8 0))>=>(iT K (fD (a8 0)))>=>jk T.zD>=>aC))>=>aC))) ag) hW1),?_];let#[dx,ob]:=hA.ob;have hac:=hA.ac;have hS0:=hS;let#[l,ds_,hav,hal,hap]:=hA.ah;rw[JL] at hap;obtain⟨ds',u,rfl,-,d,rfl,hd⟩:=St.Ps.split1 (t:=A_.e.lv) hap;cases hS with
   | ent e1 =>
     rw[e1] at hac;show#[5,x,t.aR,dx,9,ob,T.aw.cl,T.cj,0x0,A_.S.a,35,hac,at0,13,jN #[5,x,t.aR,dx,9,ob,T.aw.cl,T.cj,0x0,A_.S.a,35,hac,at0,13,aL #[] #[5,x,dx,5,ob,0x0,5,x,t.aR,dx,9,ob,T.aw.cl,T.cj,0x0,A_.S.a,35,hac,rfl,x,A_,_,rg,5,hA,hO,hR,hrp,e1,hS0,q]]]
   | lev e1 =>
     rw[e1] at hac;show#[5,x,t.aR,dx,9,ob,T.aw.cl,T.cj,0x0,A_.S.a,35,hac,at0,13,jN #[5,x,t.aR,dx,9,ob,T.aw.cl,T.cj,0x0,A_.S.a,35,hac,at0,13,aL #[] #[5,x,dx,5,ob,0x0,5,x,t.aR,dx,9,ob,T.aw.cl,T.cj,0x0,A_.S.a,35,hac,rfl,x,A_,_,rg,5,hA,hO,hR,hrp,e1,hS0,q]]]
   | gb e1 =>
     rw[e1] at hac;show#[5,x,t.aR,dx,9,ob,T.aw.cl,T.cj,0x0,A_.S.a,35,hac,at0,13,jN #[5,x,t.aR,dx,9,ob,T.aw.cl,T.cj,0x0,A_.S.a,35,hac,at0,13,aL #[] #[5,x,dx,5,ob,0x0,5,x,t.aR,dx,9,ob,T.aw.cl,T.cj,0x0,A_.S.a,35,hac,rfl,x,A_,_,rg,5,hA,hO,hR,hrp,e1,hS0,q]]]
   | @wt bv k to_ y g p as e1 hk e2 hwy hB =>
     rw[e1] at hac;subst e2;have hal4:=hA.ah;rw[JL] at hal4;show#[5,x,t.aR,dx,9,ob,T.aw.cl,T.cj,0x0,A_.S.a,35,hac,at0,13,aL #[] #[5,x,dx,5,ob,0x0,5,x,t.aR,dx,9,ob,T.aw.cl,T.cj,0x0,A_.S.a,35,hac,13,x,t.aR,dx,9,ob,T.aw.cl,T.il,0x0,5,x,t.aR,dx,9,ob,T.aw.cl,T.fB,0x0,A_.S.r,35,hR,rfl,A_.S.av,↥t.bT,y,A_.L0.map Lev.lv,A_.e.lv,⇑(.box (-1)),rfl,hal4,.inl #[7,T.jJ _],(by rw[JE]; exact hA.ln),λlv' H5 s5 hl'=>#[x,A_,k,to_,A_.give y ⇑(.box (-1)),lv',rfl,hA*>s5,hO,hk,hwy,hl',hB,λH6 s6=>q H6 (s5\s6)]]]
   | @ne kd s_ rest ds e1 nw ng hask nk hasA hok =>
     rw[e1] at hac;show#[5,x,t.aR,dx,9,ob,T.aw.cl,T.cj,0x0,A_.S.a,35,hac,at0,13,aX (λz=>nw 0xC) #[5,x,t.aR,dx,9,ob,T.aw.cl,T.cj,0x0,A_.S.a,35,hac,at0,13,aX (λz=>ng 0xC) ?_]];show#[5,x,t.aR,dx,9,ob,T.aw.cl,T.fB,0x0,5,x,t.aR,dx,9,ob,T.aw.cl,T.il,0x0,5,l,8,hav,rfl,aE.of hal,cO _ _,A_.S.r,d,rg,A_.e.lv,(1000),5,hR,hrp,hd,hask,hok,sX hask,λp vs' H1 s1 hp hcs=>?_];show#[5,x,t.aR,dx,9,(s1 _ _ ob),T.aw.cl,T.cj,0x0,5,p,5,.inr hp,5,j9 (s1<*hac) λq2 H2 s2 hq2=>?_];have lv':=Rk2.Ps.len hcs;rw[ke,lv'] at hq2;show#[5,FI (vs:=rest.take ds.length) hq2 (s2<*hp) (xg (ds.length+1) (tq (s1\s2) hasA)) (Rk2.Ps.imp (λ_ _ z=>z*>s2) hcs) hok nk #[5,aL rfl (q H2 (s1\s2))]]
   | @bk v a cs ds e1 e2 hL0 hask hcs0 okc okd =>
     rw[e1] at hac;subst e2;show#[5,x,t.aR,dx,9,ob,T.aw.cl,T.cj,0x0,A_.S.a,35,hac,at0,13,jN #[5,x,t.aR,dx,9,ob,T.aw.cl,T.cj,0x0,A_.S.a,35,hac,at0,13,jN ?_]];show#[5,x,t.aR,dx,9,ob,T.aw.cl,T.fB,0x0,5,x,t.aR,dx,9,ob,T.aw.cl,T.il,0x0,5,l,8,hav,rfl,aE.of hal,cO _ _,A_.S.r,d,_,A_.e.lv,(1000),5,hR,hrp,hd,hask,okd,sX hask,λp vs' H1 s1 hp hcs=>?_];show#[5,x,t.aR,dx,9,(s1 _ _ ob),T.aw.cl,T.cj,0x0,5,p,5,.inr hp,5,j9 (s1<*hac) λq2 H2 s2 hq2=>?_];have lv':=Rk2.Ps.len hcs;have s12:=s1\s2;rw[ke,lv',AZ hask] at hq2;show#[5,uM hq2 (s2<*hp) (Rk2.Ps.imp (λ_ _ z=>z*>s12) hcs0) (Rk2.Ps.imp (λ_ _ z=>z*>s2) hcs) okc okd #[5,?_]];cases hE:ck cs ds with
     | false =>
       rw[hE] at q;exact aL rfl (q H2 s12)
     | true =>
       rw[hE] at q;have ob2:=s12 _ _ ob;let#[cA,cs_,hcv,hcs_,hcp]:=hA.ch;have lcs:=Rk2.Ps.len hcp;rw[hL0] at lcs;have lcs:cs_.length=1:=lcs;exact jN #[5,x,t.aR,dx,9,ob2,T.aw.cl,T.fB,0x0,A_.S.r,35,(s12<*hR),at0,13,aL #[] #[5,x,t.aR,dx,9,ob2,T.aw.cl,T.iA,0x0,cA,_,JW (λz=>[z]) hcv,.inr (s12<*hcs_),rfl,by rw[lcs]; exact q H2 s12]]
   | @ca g' y g p as v k cs ds e1 e2 hask hcs0 okc okd hk hB =>
     rw[e1] at hac;subst e2;show#[5,x,t.aR,dx,9,ob,T.aw.cl,T.cj,0x0,A_.S.a,35,hac,at0,13,jN #[5,x,t.aR,dx,9,ob,T.aw.cl,T.cj,0x0,A_.S.a,35,hac,at0,13,jN ?_]];show#[5,x,t.aR,dx,9,ob,T.aw.cl,T.fB,0x0,5,x,t.aR,dx,9,ob,T.aw.cl,T.il,0x0,5,l,8,hav,rfl,aE.of hal,cO _ _,A_.S.r,d,_,A_.e.lv,(1000),5,hR,hrp,hd,hask,okd,sX hask,λp' vs' H1 s1 hp hcs=>?_];show#[5,x,t.aR,dx,9,(s1 _ _ ob),T.aw.cl,T.cj,0x0,5,p',5,.inr hp,5,j9 (s1<*hac) λq2 H2 s2 hq2=>?_];have lv':=Rk2.Ps.len hcs;have s12:=s1\s2;rw[ke,lv',Hu hask] at hq2;show#[5,uM hq2 (s2<*hp) (Rk2.Ps.imp (λ_ _ z=>z*>s12) hcs0) (Rk2.Ps.imp (λ_ _ z=>z*>s2) hcs) okc okd #[5,?_]];cases hE:ck cs ds with
     | false =>
       rw[hE] at q;exact aL rfl (q H2 s12)
     | true =>
       rw[hE,K3] at q;have ob2:=s12 _ _ ob;have hA2:=hA*>s12;obtain⟨kd,hkd⟩:∃kd,A_.ks[k]?=⇑kd:=#[_,JU (by rw[hO.l]; exact hk)]
       obtain⟨L,hL⟩:∃L,A_.Ms[k]?=⇑L:=#[_,JU hk]
       have eW:kP A_ k ((A_.L0++[A_.e]).map Lev.fr) A_.fs=(decide (kd="wait")&&gV (bZ A_.ps) L ((A_.L0++[A_.e]).map Lev.fr) A_.fs):=by unfold kP; rw[hkd,hL]
       rw[eW] at q;refine jN #[5,x,t.aR,dx,9,ob2,T.aw.cl,T.fB,0x0,A_.S.r,35,(s12<*hR),at0,13,jN #[5,x,t.aR,dx,9,ob2,T.aw.cl,T.fB,0x0,A_.S.r,35,(s12<*hR),at0,13,aL #[] #[5,x,dx,5,ob2,0x0,5,x,t.aR,dx,9,ob2,T.aw.cl,T.cj,0x0,A_.S.a,35,(s12<*hac),rfl,x,A_,k,kd,rfl,hA2,hkd,5,?_]]];by_cases hw:kd="wait"
       . rw[JG hw,K3] at q;exact aL (JG hw) #[5,x,dx,5,ob2,0x0,5,x,t.aR,dx,9,ob2,T.aw.cl,T.cj,0x0,A_.S.a,35,(s12<*hac),13,x,t.aR,dx,9,ob2,T.aw.cl,T.iA,0x0,5,x,t.aR,dx,9,ob2,T.aw.cl,T.il,0x0,x,A_,k,L,33,hA2,hO,hL,hA2.ch,hA2.ah.up #[],hB,λH3 s3=>q H3 (s12\s3)]
       . rw[JP hw] at q;exact aX (λz=>hw (aq z)) (q H2 s12)
def GL:FnScope ["program","spots","marks","k"] ["program","spots","marks","k"] (az qe):=by walk_at "s"
def BX (T:Txt K mg t):FnOk P w K mg base CX0 19 t.z8 t.A6 ["program","spots","marks","k"] (Du K t):=by
 have QH:=ES (P:=P) (w:=w) (base:=base) T;have QI:=DL (P:=P) (w:=w) (base:=base) T;have QJ:=Hq (P:=P) (w:=w) (base:=base) T;refine T.spot_holds.F.ok GL (λvs H Q E h=>?_) (λcdv A outer s H vs Q E hr h=>?_)
 . let#[_,_,_,_,_,_,_,_,_,_,_,_,rfl,_]:=h;rfl
 . let#[p,sp,mk,a,k,A_,ps,fb,rg,v,w_,b,rfl,eps,hP,n0,n12,hE,hPl,nd,hT,hM,hv,hSp,ha,hf,h10,hnb,hno,hO,hw,hR,hrp,hS,q]:=h;show#[_,(aH (@af _ _ _ _ (Hc (tU T.aw T.yD QH (hr*>#[]) ((tU T.cw T.yC QI (hr*>#[]) (a8 0>=>aC))>=>a8 1>=>a8 2>=>a8 3>=>aC)) T.aw.cl T.sr.m QJ (hr*>#[]) T.sr.b .nil eO)) ag),?_];show#[5,λx dx nx ndx nex=>?_];have s0:aA H (upd (upd H dx (.own x)) x (.ins t.bR dx [])):=λb o e=>by rw[am (cS e nx),am (cS e ndx)];exact e
   have s1':aA H (ers x (upd (upd H dx (.own x)) x (.ins t.bR dx []))):=λb o e=>by rw[fH,bW (cS e nx),am (cS e ndx)];exact e
   show#[x,dx,p,A_.fns,rfl,aG,s1'.seq hP,n0,n12,λf hf=>(hE f hf)*>s1',hPl,nd,λH1 s1 hF=>#[rfl,?_]];have s01:aA H H1:=λb o e=>s1 b o (by rw[bW (cS e nx)]; exact s0 b o e);show#[85,λy dy ny ndy ney=>?_];have s2':aA H1 (ers y (upd (upd H1 dy (.own y)) y (.ins t.aR dy []))):=λb o e=>by rw[fH,bW (cS e ny),am (cS e ndy)];exact e
   have s02:=s01\s2';have hT2:=hT*>s02;show#[y,dy,x,sp,mk,a,k,A_.fns,A_.svs,A_.mvs,A_.ks,A_.Ms,A_.L0,A_.e,ps,A_.as,v,fb,rfl,aG,#[hF*>s2',hT2.s,hT2.ss,hT2.m,hT2.ms,hT2.l],hM,hv,hSp*>s02,s02<*ha,hf,h10,hnb,hno,λS H3 s3 hSt=>#[rfl,?_]];have s03:aA H H3:=s02\s3;rw[<- eps] at hSt;let#[dz,obz]:=hSt.ob;let#[w2,e2,e3]:=hSt.row;have:w2=w_:=by have e2:A_.e.F.rs[A_.e.r]?=⇑w2:=e2; rw[hw] at e2; exact(Option.some.inj e2).symm
   subst this;show#[y,dz,5,obz,0x0,y,A_.to S,rg,b,rfl,hSt,#[hO.l,hO.n,hO.g,hO.v],(by show aD K H3 S.r rg.items; rw[show S.r=w2.r from e3]; exact s03<*hR),(hrp*>s03),(hS*>s03).to S,λH4 s4=>q H4 (s03\s4)]
def Gj:FnScope ["_law_script","_law_k"] ["_law_script","_law_k"] (az rO):=by walk_at "s"
def HV (T:Txt K mg t):FnOk P w K mg base CX0 1 t.yb t.zg ["_law_script","_law_k"] (FA K):=by
 refine T.AF.F.ok Gj (λvs H Q E h=>?_) (λcdv A outer s H vs Q E hr h=>?_)
 . let#[_,_,_,rfl,_]:=h;rfl
 . let#[a,ns,k,rfl,hS,hl,h0,q]:=h;show#[_,(aH (ai (aS (bN qh) (a8 1) (bz 0x1 0x0 T.b_len cL (a8 0>=>aC)) (aN _)) (~~~(iY K (a8 0) (a8 1))) ag) (~~~aF)),?_];have hlen:(ns.map V.int).length=ns.length:=JE _;show#[21,a,5,.inl hS,77,?_];refine ID (λc=>?_) (λc=>?_)
   . have c:=aq c;rw[hlen] at c;let#[z,hz]:=ET h0 c;show#[21,a,35,hS,hz,q _]
   . exact q _
end
end K45
namespace K45
open PySem L2 K21 Rk2
section
variable {P:Program} {w:World} {K:Md} {mg:Str->JK Ma} {base:Heap} {t:Adr}
def HK:FnScope ["_law_sign","_law_one","_law_other"] ["_law_sign","_law_one","_law_other"] (az sJ):=by walk_at "s"
def DF (T:Txt K mg t):FnOk P w K mg base CX0 1 t.yr t.zx ["_law_sign","_law_one","_law_other"] (E3 K):=by
 refine T.AQ.F.ok HK (λvs H Q E h=>?_) (λcdv A outer s H vs Q E hr h=>?_)
 . let#[_,_,_,rfl,_]:=h;rfl
 . let#[s,a,b,rfl,h1,h2,h3,h4,q]:=h;show#[_,(aH (ai (aS ak (a8 0) aU (aN _)) (~~~(aM bE<$>(bN cM<$>a8 1<*>a8 2)<*>(aM lB<$>aF<*>aF))) ag) (aH (ai (aS ak (a8 0) aU (aN _)) (~~~(aM bE<$>(bN i4<$>a8 1<*>a8 2)<*>(aM lB<$>aF<*>aF))) ag) (aH (ai (aS ak (a8 0) aU (aN _)) (~~~(aM bE<$>(aM eN<$>a8 1<*>a8 2)<*>(aM lB<$>aF<*>aF))) ag) (aH (ai (aS ak (a8 0) aU (aN _)) (aH (ai (aS ak (a8 2) aF (aN _)) (~~~aF) ag) (~~~(aM xV<$>a8 1<*>a8 2))) ag) (aH (ai (aS ak (a8 0) aU (aN _)) (~~~(br gz 0x0 T.b_int gw ((cW (bN qh) (a8 1) (a8 2) (aN _))>=>aC))) ag) (aH (ai (aS ak (a8 0) aU (aN _)) (~~~(br gz 0x0 T.b_int gw ((cW ak (a8 1) (a8 2) (aN _))>=>aC))) ag) (aH (ai (aS ak (a8 0) aU (aN _)) (~~~(bN vI<$>a8 1<*>a8 2)) ag) (aH (ai (aS ak (a8 0) aU (aN _)) (~~~(bN ua<$>a8 1<*>a8 2)) ag) (~~~(bN uJ<$>a8 1<*>a8 2)))))))))),?_];have hw:wide=281474976710656:=rfl;show#[45,?_];by_cases k1:s="+"
   . refine aL (JG (JW V.str k1)) ?_;have e:valOf s a b=(a+b)%wide:=by unfold valOf; rw[JR k1]
     rw[e] at q;show#[5427,#[#[],#[],#[]],19,pos48,vq (JW V.int (JW (λz=>(a+b)%z) pw48)) q]
   refine aX (λz=>k1 0xC) ?_;show#[45,?_];by_cases k2:s="-"
   . refine aL (JG (JW V.str k2)) ?_;have e:valOf s a b=(a - b)%wide:=by unfold valOf; rw[JI k1,JR k2]
     rw[e] at q;show#[5427,#[#[],#[],#[]],19,pos48,vq (JW V.int (JW (λz=>(a - b)%z) pw48)) q]
   refine aX (λz=>k2 0xC) ?_;show#[45,?_];by_cases k3:s="*"
   . refine aL (JG (JW V.str k3)) ?_;have e:valOf s a b=(a * b)%wide:=by unfold valOf; rw[JI k1,JI k2,JR k3]
     rw[e] at q;show#[339,.inl #[∅,∅],19,#[#[],#[],#[]],19,pos48,vq (JW V.int (JW (λz=>(a * b)%z) pw48)) q]
   refine aX (λz=>k3 0xC) ?_;show#[45,?_];by_cases k4:s="/"
   . refine aL (JG (JW V.str k4)) ?_;have e:valOf s a b=if b=0 then 0 else a / b:=by unfold valOf; rw[JI k1,JI k2,JI k3,JR k4]
     rw[e] at q;show#[45,?_];by_cases hb:b=0
     . rw[JR hb] at q;exact aL (JG (JW V.int hb)) q
     . rw[JI hb] at q;exact aX (λz=>hb (V.int.inj (aq z))) #[339,#[∅,∅],q]
   refine aX (λz=>k4 0xC) ?_;show#[45,?_];by_cases k5:s="<"
   . refine aL (JG (JW V.str k5)) ?_;have e:valOf s a b=if a<b then 1 else 0:=by unfold valOf; rw[JI k1,JI k2,JI k3,JI k4,JR k5]
     rw[e] at q;show#[339,.inr #[5,vq ?_ q]];by_cases hb:a<b <;> simp [hb]
   refine aX (λz=>k5 0xC) ?_;show#[45,?_];by_cases k6:s="="
   . refine aL (JG (JW V.str k6)) ?_;have e:valOf s a b=if a=b then 1 else 0:=by unfold valOf; rw[JI k1,JI k2,JI k3,JI k4,JI k5,JR k6]
     rw[e] at q;show#[43,.inr #[5,vq ?_ q]];by_cases hb:a=b <;> simp [hb]
   refine aX (λz=>k6 0xC) ?_;show#[45,?_];by_cases k7:s="&"
   . refine aL (JG (JW V.str k7)) ?_;have e:valOf s a b=Builtin.bitAnd a b:=by unfold valOf bw; rw[JI k1,JI k2,JI k3,JI k4,JI k5,JI k6,JR k7]
     rw[e] at q;show#[339,q]
   refine aX (λz=>k7 0xC) ?_;show#[45,?_];by_cases k8:s="|"
   . refine aL (JG (JW V.str k8)) ?_;have e:valOf s a b=Builtin.bitOr a b:=by unfold valOf bw; rw[JI k1,JI k2,JI k3,JI k4,JI k5,JI k6,JI k7,JR k8]
     rw[e] at q;show#[339,q]
   refine aX (λz=>k8 0xC) ?_;have e:valOf s a b=Builtin.bitXor a b:=by unfold valOf bw; rw[JI k1,JI k2,JI k3,JI k4,JI k5,JI k6,JI k7,JI k8]
   rw[e] at q;show#[339,q]
end
end K45
namespace K45
open PySem L2 Gx Fl K41
section
variable {P:Program} {w:World} {K:Md} {mg:Str->JK Ma} {base:Heap} {t:Adr}
def i7:FnScope ["_law_cell","_law_many","_law_letters","_law_size","_law_word","_law_at","_law_found","_law_k","_law_name"] ["_law_cell","_law_many"] (az ja):=by walk_at "s"
def xO (T:Txt K mg t):FnOk P w K mg base CX0 1 t.yh t.zm ["_law_cell","_law_many"] (CQ K):=by
 refine T.mM.F.ok i7 (λvs H Q E h=>?_) (λcdv A outer s H vs Q E hr h=>?_)
 . let#[_,_,rfl,_]:=h;rfl
 . skip
   refine lx ?_;intro XX;refine(let W6:TS:=_; have hW6:aY XX ((aV ja).drop 6) W6:=(~~~(a8 6)); ?_);refine(let W4:TS:=_; have hW4:aY XX ((aV ja).drop 4) W4:=(aH (pS 6 i7.nd (bQ aC)) (aH (cf PassesOwn.never rfl (fO rfl T.b_range (a8 1>=>aC)) (bD (i:=7) i7.nd rfl 0x8) (aH (pS 8 i7.nd (qr<$>(qr<$>(dG wN (a8 4) dO (dB (a8 5)))<*>(dj pY (a8 2) (aM bE<$>(bN cM<$>(aM bc<$>a8 0<*>aF)<*>a8 7)<*>aF) (λ_ _=>rfl)))<*>(dG wN (a8 4) (dB (a8 5)) dO))) (aH (ai (aS fT (a8 8) (@DI _ _ [V.str "fn",V.str "in",V.str "new",V.str "get",V.str "put",V.str "call",V.str "out",V.str "if",V.str "while",V.str "else",V.str "end",V.str "back"] (by kernel_rfl)) (by with_unfolding_all rfl)) (@aK _ _ _ (pS 8 i7.nd (qr<$>a8 8<*>aU))) ag) (@aK _ _ _ (@du _ _ _ _ (cq Jc Jt Ju gF (a8 6) (a8 8>=>aC)) 0x0))))) hW6)); ?_);refine(let W2:TS:=_; have hW2:aY XX ((aV ja).drop 2) W2:=(aH (pS 4 i7.nd (cq PySem.F.plainAttrs_str PySem.F.slot_str_join PySem.F.type_str_join DB aU ((dg (N':=["_law_k","_law_letters","_law_cell"]) (js:=[none,some 2,some 0]) (by kernel_rfl) rfl (fO rfl T.b_range (a8 3>=>aC)) dD (λ_ _ _ _=>(bD (i:=0) (show(["_law_k","_law_letters","_law_cell"]:List Str).Nodup by decide +kernel) rfl 0x8 (.inr rfl))) (λ_ _ _ _=>dC) (λ_ _ _ _=>(dj pY (a8 1) (aM bE<$>(aM bc<$>(aM bE<$>(aM eN<$>a8 2<*>(bN cM<$>aF<*>(aM eN<$>aF<*>a8 0)))<*>aF)<*>aF)<*>aF) (λ_ _=>rfl))))>=>aC))) (aH (pS 5 i7.nd (aM bE<$>(aM bc<$>a8 0<*>aF)<*>(bN cM<$>a8 3<*>aF))) hW4)); ?_);let#[c,mn,rfl,hmn,q]:=h;show#[_,(aH (pS 2 i7.nd aU) (aH (pS 3 i7.nd (aM bE<$>a8 0<*>aF)) hW2)),?_];have b8:=ij c 8 #[];let#[sz,es]:=KP b8.1;have s8:sz<8:=by lia
   have lf:K12.lets.length<=sizeLine:=by decide +kernel
   show#[83,(show(0:Int)<8 by decide),?_];show#[53,∅,∅,λu hu=>Ho (λi=>V.str (tx [lc (c * (48271+2 * (0+(i:Int)))%2147483647 / 9%26)])) ∅ hu ?_ ?_]
   . rintro i H2 Rr hi s2 hR;have bi:=ij (c * (48271+2 * (0+(i:Int)))%2147483647 / 9) 26 #[];show#[1363,.inl #[#[],#[]],307,.inr #[∅,∅],19,(show(0:Int)<2147483647 by decide),19,#[#[],#[]],19,(show(0:Int)<26 by decide),35,lf,ue bi.1 bi.2,hR]
   rintro H2 s2 e2;have en:(c%8).toNat=sz:=by lia
   rw[en] at e2;have e3:((List.range sz).map λi:Nat=>V.str (tx [lc (c * (48271+2 * (0+(i:Int)))%2147483647 / 9%26)]))=(((List.range sz).map λi:Nat=>[lc (c * (48271+2 * (0+(i:Int)))%2147483647 / 9%26)]).map tx).map V.str:=by rw[K7,K7];rfl
   rw[e3] at e2;have so:∀l:List Nat,(((l.map λi:Nat=>[lc (c * (48271+2 * (0+(i:Int)))%2147483647 / 9%26)]).map tx).map (·.length)).sum=l.length:=λl=>by
     induction l with
     | nil=>rfl
     | cons x l ih=>rw[Jd,Jd,Jd,List.sum_cons,ih,gd,Jo]; simp; lia
   have fo:∀l:List Nat,(l.map λi:Nat=>[lc (c * (48271+2 * (0+(i:Int)))%2147483647 / 9%26)]).flatten=l.map λi:Nat=>lc (c * (48271+2 * (0+(i:Int)))%2147483647 / 9%26):=λl=>by
     induction l with
     | nil=>rfl
     | cons x l ih=>rw[Jd,Kp,ih]; rfl
   show#[_,u,11,aE.of e2,(by rw[so,Kx,JE,JE,Kx]; show sz+sz * 0<=16777216; lia),?_];rw[xQ,fo];have hWl:((List.range sz).map λi:Nat=>lc (c * (48271+2 * (0+(i:Int)))%2147483647 / 9%26)).length=sz:=by rw[JE,Kx]
   have hWm:∀x∈((List.range sz).map λi:Nat=>lc (c * (48271+2 * (0+(i:Int)))%2147483647 / 9%26)),x∈K12.lets.cps.toList:=λx hx=>by let#[i,_,rfl]:=Jh.mp hx;have bi:=ij (c * (48271+2 * (0+(i:Int)))%2147483647 / 9) 26 #[];exact xr bi.1 bi.2
   generalize ((List.range sz).map λi:Nat=>lc (c * (48271+2 * (0+(i:Int)))%2147483647 / 9%26))=W at hWl hWm ⊢;have wf:(tx W).length<=sizeLine:=by rw[gd]; exact bt ∅
   have ba:=ij (c / 8) (c%8+1) ∅;let#[a,ea]:=KP ba.1;have aW:a<=W.length:=by lia
   show#[83,#[#[],#[]],1331,(by show(0:Int)<c%8+1; lia),?_];show#[fA,λl hl=>?_];have hlH:H l=none:=s2.free hl;show#[21,∅,∅,?_];refine(let Jv1:Nat->St->Hp->Prop:=λi σ H3=>aA H H3/\(∃v7 v8,σ=[⇑(.int c),⇑(.int mn),⇑(.str K12.lets),⇑(.int (c%8)),⇑(.str (tx W)),⇑(.int (c / 8%(c%8+1))),⇑↥l,v7,v8])/\H3 l=⇑(.lst (((List.range i).map (eY W a (c / 64))).map V.str)); j0 (lo:=0) (n:=mn) Jv1 #[s2\(aA.new hl),#[9],aG] ?_ ?_)
   . rintro i σ H3 hi ⟨s3,⟨v7,v8,rfl⟩,e3⟩;have bi:=ij (c / 64+(0+(i:Int))) 26 #[];have ei:(c / 64+(0+(i:Int)))%26=(c / 64+(i:Int))%26:=by rw[L7]
     show#[341,wf,?_];rw[show(⇑(c / 8%(c%8+1)):JK Int)=⇑((a:Nat):Int) by rw[ea],EV aW];show#[339,#[#[],#[]],1331,(show(0:Int)<26 by decide),35,lf,ue bi.1 bi.2,?_];show#[19,(by rw[gd,Jk]; exact bt (by show min a W.length+1<1000000; lia)),?_];show#[341,wf,?_];rw[show(⇑(c / 8%(c%8+1)):JK Int)=⇑((a:Nat):Int) by rw[ea],HG aW];have eB:tx (W.take a)++(⟨(List.toArray [lc ((c / 64+(0+(i:Int)))%26)])⟩:Str)++tx (W.drop a)=tx (eo W a (c / 64) i):=by rw[show(#[(List.toArray [lc ((c / 64+(0+(i:Int)))%26)])]:Str)=tx [lc ((c / 64+(0+(i:Int)))%26)] from rfl,l8,l8,ei];rfl
     have bl:=oQ W a (c / 64) i;show#[19,?_,?_]
     . rw[show(#[(List.toArray [lc ((c / 64+(0+(i:Int)))%26)])]:Str)=tx [lc ((c / 64+(0+(i:Int)))%26)] from rfl,l8,gd,gd,JF,Jk,KI];exact bt (by simp; lia)
     rw[eB];show#[5,(by show 12<=sizeLine; decide),λtl htl=>#[tl,5,.inl (aE.of aG),rfl,0x3,5,?_]];have s4:=s3\(aA.new (o:=.lst jM) htl);have e4:=aA.new (o:=.lst jM) htl _ _ e3;have nx:∀s:Str,s=eY W a (c / 64) i->aA H (upd (upd H3 tl (.lst jM)) l (.lst (((List.range i).map (eY W a (c / 64))).map V.str++[V.str s])))/\(upd (upd H3 tl (.lst jM)) l (.lst (((List.range i).map (eY W a (c / 64))).map V.str++[V.str s]))) l=⇑(.lst (((List.range (i+1)).map (eY W a (c / 64))).map V.str)):=λs hs=>by show#[s4.upd hlH,?_];rw[aG,hs,List.range_succ,JL,JL];rfl
     have fitl:(((List.range i).map (eY W a (c / 64))).map V.str).length<sizeLine:=by rw[JE,JE,Kx]; exact wF ∅
     by_cases ht:fQ (.str (tx (eo W a (c / 64) i))) jM=true
     . have en:tx (eo W a (c / 64) i)++("x":Str)=eY W a (c / 64) i:=by unfold eY;rw[JR ht];exact l8 _ [120]
       refine aL ht #[83,(by rw[gd,bl]; exact bt (by show W.length+1+1<1000000; lia)),?_];let#[x1,x2]:=nx _ en;show#[5,.inl #[6,aE.of e4],5,l,19,e4,fitl,x1,#[9],x2]
     . have en:tx (eo W a (c / 64) i)=eY W a (c / 64) i:=by unfold eY;rw[JI ht]
       refine aX ht ?_;let#[x1,x2]:=nx _ en;show#[5,.inl #[6,aE.of e4],5,l,19,e4,fitl,x1,#[9],x2]
   . rintro σ H3 ⟨s3,⟨v7,v8,rfl⟩,e3⟩;show#[5,q _ (by rw[JE,Kx]) ?_ (λw hw=>?_) l H3 s3 hlH e3]
     . exact List.pairwise_map.mpr (List.Pairwise.imp_of_mem (λ{x y} hx hy hne h=>hne (C8 (by have:=MU.mp hx; lia) (by have:=MU.mp hy; lia) h)) List.nodup_range)
     . let#[k,_,rfl]:=Jh.mp hw;exact C4 hWm ∅
end
end K45
namespace K45
open PySem L2 K21 Rk2 Bg
section
variable {P:Program} {w:World} {K:Md} {mg:Str->JK Ma} {base:Heap} {t:Adr}
def gL:FnScope ["_law_cell","_law_boxes","_law_one","_law_k","_law_number","_law_sign","_law_other"] ["_law_cell","_law_boxes"] (az rM):=by walk_at "s"
def me (T:Txt K mg t):FnOk P w K mg base CX0 1 t.yp t.zv ["_law_cell","_law_boxes"] (CZ K):=by
 refine T.kE.F.ok gL (λvs H Q E h=>?_) (λcdv A outer s H vs Q E hr h=>?_)
 . let#[_,_,_,rfl,_]:=h;rfl
 . let#[c,bl,bs,rfl,hB,hbs,q]:=h;show#[_,(aH (pS 2 gL.nd (aj (aU>=>(aM bE<$>(aM bc<$>a8 0<*>aF)<*>(aM lB<$>aF<*>aF))>=>aC))) (d8 (ai (aS (bN j2) (aM bE<$>a8 0<*>aF) aF (aN _)) (@aK _ _ _ (pS 2 gL.nd (aj (aU>=>(iY K (a8 1) (aM bE<$>(aM bc<$>a8 0<*>aF)<*>(bz 0x1 0x0 T.b_len cL (a8 1>=>aC))))>=>aC)))) ag) (aH (cf PassesOwn.never rfl (fO rfl T.b_range ((aM bE<$>(aM bc<$>a8 0<*>aF)<*>aF)>=>aC)) (bD (i:=3) gL.nd rfl 0x8) (aH (pS 4 gL.nd (aM bc<$>(aM bE<$>(aM eN<$>a8 0<*>(iY K (bQ (aF>=>aF>=>aC)) (a8 3)))<*>aF)<*>aF)) (aH (pS 5 gL.nd (dj pY aU (aM bE<$>(aM bc<$>a8 4<*>aF)<*>aF) (λ_ _=>rfl))) (aH (pS 6 gL.nd (aj (aU>=>(iY K (a8 1) (aM bE<$>(aM bc<$>a8 4<*>aF)<*>(bz 0x1 0x0 T.b_len cL (a8 1>=>aC))))>=>aC))) (aH (ai (aS ak (aM bE<$>(aM bc<$>a8 4<*>aF)<*>aF) aF (aN _)) (@aK _ _ _ (pS 6 gL.nd (aj (aU>=>(aM bE<$>(aM bc<$>a8 4<*>aF)<*>aF)>=>aC)))) ag) (@aK _ _ _ (ai (aS ak (aM bE<$>a8 4<*>aF) aF (aN _)) (@aK _ _ _ (pS 2 gL.nd (aj (a8 5>=>a8 2>=>a8 6>=>aC)))) (@aK _ _ _ (pS 2 gL.nd (aj (a8 5>=>a8 6>=>a8 2>=>aC))))))))))) (~~~(a8 2))))),?_];have b5:=ce (c / 5) ((2:Int) ^ (48:Int).toNat) pos48;rw[pw48] at b5;show#[83,#[#[],#[]],19,#[#[],#[],#[]],19,pos48,aZ,λa0 k0=>?_];show#[λσ' G=>∃tr v,σ'=[⇑(.int c),⇑↥bl,⇑v,none,none,none,none]/\aA H G/\RAt G tr v/\gD 0 tr,?_,?_]
   . show#[83,(show(0:Int)<5 by decide),77,?_];by_cases h5:c%5 > 0
     . let#[b,e1,e2,e3]:=mT hbs (c / 5);refine aL (JG h5) #[339,#[#[],#[]],5,bl,5,.inl ((aA.new k0).seq hB),19,e1,bl,35,(aA.new k0).seq hB,e2,aZ,λa1 k1=>#[.box b,5,(aA.new k0)\(aA.new k1),#[a1,rfl,aG],tL e3]]
     . exact aX (by rw[K1]; exact h5) #[.num (c / 5%(2:Int) ^ (48:Int).toNat),5,aA.new k0,#[a0,rfl,aG],(by rw[pw48]; exact wU b5.1 b5.2)]
   rintro σ' G ⟨tr0,v0,rfl,s0,r0,t0⟩;have b3:=ce (c / 40) 3 #[];show#[83,#[#[],#[]],19,(show(0:Int)<3 by decide),5,∅,∅,(let Jv1:Nat->St->Hp->Prop:=λi σ H2=>∃tr v v3 v4 v5 v6,σ=[⇑(.int c),⇑↥bl,⇑v,v3,v4,v5,v6]/\aA H H2/\RAt H2 tr v/\gD i tr; j0 (lo:=0) (n:=(c / 40%3).toNat) Jv1 #[tr0,v0,33,s0,r0,t0] ?_ ?_)]
   . rintro i σ H2 hi ⟨tr,v,v3,v4,v5,v6,rfl,s1,r1,t1⟩;show#[5,aZ,λL hL=>#[5,L,35,aE.of aG,Ad ∅ ∅,?_]];generalize hf:(if(0+(i:Int))=0 then(48271:Int) else 69621)=fc;have hfc:fc=48271\/fc=69621:=by rw[<- hf]; split <;> simp
     show#[19,.inr #[∅,∅],19,(show(0:Int)<2147483647 by decide),19,#[#[],#[]],?_];have s2:=s1\(aA.new (o:=.lst [V.int 48271,V.int 69621]) hL);have r2:=r1*>(aA.new (o:=.lst [V.int 48271,V.int 69621]) hL);generalize upd H2 L (.lst [V.int 48271,V.int 69621])=G2 at s2 r2 ⊢;let#[ch,hch]:=Ef (i:=c * fc%2147483647 / 3 / 2%9) (L5 _ #[]) (Kr _ #[]);have oc:=F' ch;show#[83,#[#[],#[]],19,(show(0:Int)<9 by decide),4,ch,7,Ck,hch,?_];let#[b,e1,e2,e3]:=mT hbs (c * fc%2147483647 / 3 / 18);show#[339,#[#[],#[]],5,bl,5,.inl (s2.seq hB),19,e1,bl,35,s2.seq hB,e2,aZ,λa2 k2=>?_];show#[83,#[#[],#[]],19,(show(0:Int)<4 by decide),13,?_];by_cases h4:c * fc%2147483647 / 3 / 144%4=0
     . have b9:=ce (c * fc%2147483647 / 3 / 576) 9 #[];refine aL (JG (JW V.int h4)) #[83,#[#[],#[]],19,(show(0:Int)<9 by decide),aZ,λa3 k3=>?_];have s13:=(aA.new (o:=.tup [V.str "box",V.int b]) k2)\(aA.new (o:=.tup [V.str "num",V.int (c * fc%2147483647 / 3 / 576%9)]) k3);have s3:=s2\s13;have r3:RAt (upd (upd G2 a2 (.tup [V.str "box",V.int b])) a3 (.tup [V.str "num",V.int (c * fc%2147483647 / 3 / 576%9)])) (.num (c * fc%2147483647 / 3 / 576%9)) ↥a3:=#[a3,rfl,aG]
       have t3:gD i (.num (c * fc%2147483647 / 3 / 576%9)):=wU b9.1 (Int.lt_trans b9.2 #[]);have r1:=r2;show#[83,(show(0:Int)<2 by decide),13,?_];by_cases h2:c * fc%2147483647 / 3%2=0
       . refine aL (JG (JW V.int h2)) #[85,cn,λa4 k4=>?_];show#[.op #[(List.toArray [ch])] tr (.num (c * fc%2147483647 / 3 / 576%9)),65,s3\(aA.new k4),#[a4,9,aG,oc.1,oc.2,(r1*>s13).mono (aA.new k4),r3*>(aA.new k4)],mh (oX hch) t1 t3]
       . refine aX (λz=>h2 (V.int.inj (aq z))) #[85,cn,λa4 k4=>?_];show#[.op #[(List.toArray [ch])] (.num (c * fc%2147483647 / 3 / 576%9)) tr,65,s3\(aA.new k4),#[a4,9,aG,oc.1,oc.2,r3*>(aA.new k4),(r1*>s13).mono (aA.new k4)],mh (oX hch) t3 t1]
     . have s13:=aA.new (o:=.tup [V.str "box",V.int b]) k2;have s3:=s2\s13;have r3:RAt (upd G2 a2 (.tup [V.str "box",V.int b])) (.box b) ↥a2:=#[a2,rfl,aG]
       have t3:gD i (.box b):=tL e3;have r1:=r2;refine aX (λz=>h4 (V.int.inj (aq z))) #[83,(show(0:Int)<2 by decide),13,?_];by_cases h2:c * fc%2147483647 / 3%2=0
       . refine aL (JG (JW V.int h2)) #[85,cn,λa4 k4=>?_];show#[.op #[(List.toArray [ch])] tr (.box b),65,s3\(aA.new k4),#[a4,9,aG,oc.1,oc.2,(r1*>s13).mono (aA.new k4),r3*>(aA.new k4)],mh (oX hch) t1 t3]
       . refine aX (λz=>h2 (V.int.inj (aq z))) #[85,cn,λa4 k4=>?_];show#[.op #[(List.toArray [ch])] (.box b) tr,65,s3\(aA.new k4),#[a4,9,aG,oc.1,oc.2,r3*>(aA.new k4),(r1*>s13).mono (aA.new k4)],mh (oX hch) t3 t1]
   . rintro σ H2 ⟨tr,v,v3,v4,v5,v6,rfl,s1,r1,t1⟩;show#[5,q tr v H2 s1 r1 (t1.ok ∅)]
end
end K45
namespace K45
open PySem L2 K21 Rk2
section
variable {P:Program} {w:World} {K:Md} {mg:Str->JK Ma} {base:Heap} {t:Adr}
def oS:FnScope ["_law_one","_law_news_here","_law_left","_law_right_here"] ["_law_one","_law_news_here"] (az kL):=by walk_at "s"
def rj (T:Txt K mg t):∀n,FnOk P w K mg base CX0 (n+2) t.mK t.mL ["_law_one","_law_news_here"] (md K n)
| 0=>T.kF.F.ok oS (λvs H Q E h=>by let#[tr,v,d,kvs,g,rfl,hd,hR,hD,nv,ok,og,q]:=h; exact absurd hd (K9 _)) (λcdv A outer s H vs Q E hr h=>by let#[tr,v,d,kvs,g,rfl,hd,hR,hD,nv,ok,og,q]:=h; exact absurd hd (K9 _))
| n+1=>by
 have Qe:FnOk P w K mg base CX0 (n+2) t.mK t.mL ["_law_one","_law_news_here"] (md K n):=rj T n;have QK:=DF (P:=P) (w:=w) (base:=base) T;refine T.kF.F.ok oS (λvs H Q E h=>?_) (λcdv A outer s H vs Q E hr h=>?_)
 . let#[_,_,_,_,_,rfl,_]:=h;rfl
 . skip
   refine lx ?_;intro XX;refine(let W4:TS:=_; have hW4:aY XX ((aV kL).drop 4) W4:=(aH (ai (@PW.pt _ _ _ (dJ (aS ak (iT K (a8 2)) aU (aN _)) (dY (aS ak (iT K (a8 3)) aU (aN _))))) (~~~(aj (aU>=>(io T.AQ QK (hr.mono ∅) ((iT K (a8 0))>=>(iT K (a8 2))>=>(iT K (a8 3))>=>aC))>=>aC))) ag) (~~~(aj ((iT K (a8 0))>=>a8 2>=>a8 3>=>aC)))); ?_);refine(let W2:TS:=_; have hW2:aY XX ((aV kL).drop 2) W2:=(aH (pS 2 oS.nd (io T.kF Qe (hr.mono ∅) ((iT K (a8 0))>=>a8 1>=>aC))) (aH (pS 3 oS.nd (io T.kF Qe (hr.mono ∅) ((iT K (a8 0))>=>a8 1>=>aC))) hW4)); ?_);let#[tr,v,d,kvs,g,rfl,hd,hR,hD,nv,ok,og,q]:=h;show#[_,(aH (ai (aS ak (iT K (a8 0)) aU (aN _)) (~~~(qZ (cr hr.units) (a8 1) (iT K (a8 0)) (a8 0) #[31])) ag) (aH (ai (aS ak (iT K (a8 0)) aU (aN _)) (~~~(a8 0)) ag) hW2)),?_];cases tr with
   | box k =>
     have hR':=hR;let#[p,rfl,e]:=hR;show#[5,p,35,aD.of e,at0,13,aL (JG rfl) ?_];show#[5,d,rfl,.inl #[kvs,.inl hD],5,p,35,aD.of e,26,eJ.k (k:=Sum.inl k) hD,q _ _ (aA.refl _) ?_];show RAt H ((g k).getD (.box k)) _;cases eg:g k with
     | none=>rw[nv.no eg]; exact hR'
     | some t =>
       let#[x,h1,h2]:=nv.yes eg;rw[h1];exact h2
   | num k =>
     have hR':=hR;let#[p,rfl,e]:=hR;show#[5,p,35,aD.of e,at0,13,aX (λz=>vS 0xC) ?_];show#[5,p,35,aD.of e,at0,13,aL (JG rfl) #[5,q _ _ (aA.refl _) hR']]
   | op s l r =>
     let#[p,x,y,rfl,e,n1,n2,hx,hy]:=hR;have d1:dp l<n:=by have:max (dp l) (dp r)+1<n+1:=hd; lia
     have d2:dp r<n:=by have:max (dp l) (dp r)+1<n+1:=hd; lia
     let#[o1,o2]:=oF ok;show#[5,p,35,aD.of e,at0,13,aX (λz=>n1 0xC) ?_];show#[5,p,35,aD.of e,at0,13,aX (λz=>n2 0xC) ?_];show#[5,p,35,aD.of e,13,l,x,d,kvs,g,rfl,d1,hx,hD,nv,o1,og,λv1 H1 s1 r1=>?_];show#[5,p,35,aD.of (s1 _ _ e),13,r,y,d,kvs,g,rfl,d2,hy*>s1,s1 _ _ hD,nv*>s1,o2,og,λv2 H2 s2 r2=>?_];have s12:=s1\s2;have r1':=r1*>s2;let#[pl,hd1,rest1,rfl,el,a1,a2]:=r1'.head;let#[pr,hd2,rest2,rfl,er,b1,b2]:=r2.head;show#[5,pl,35,aD.of el,at0,13,?_];have fin:∀c H3,H3 c=⇑(.tup [.str s,↥pl,↥pr])->aA H2 H3->((∀k,pt g l≠.num k)\/∀k,pt g r≠.num k)->RAt H3 (pt g (.op s l r)) ↥c:=λc H3 hc s3 hn=>by show RAt H3 (tog s (pt g l) (pt g r)) ↥c;rw[tZ hn];show#[c,9,hc,n1,n2,r1'*>s3,r2*>s3]
     by_cases m1:hd1="num"
     . refine aL (JG (JW V.str m1)) #[5,pr,35,aD.of er,at0,13,?_];by_cases m2:hd2="num"
       . let#[k1,z1,y1]:=a1 m1;let#[k2,z2,y2]:=b1 m2;subst y1;subst y2;have w1:=jc (by have:=jr og o1; rw[z1] at this; exact this);have w2:=jc (by have:=jr og o2; rw[z2] at this; exact this);refine aL (JG (JW V.str m2)) #[5,p,35,aD.of (s12 _ _ e),at0,5,pl,35,aD.of el,13,pr,35,aD.of er,rfl,s,k1,k2,rfl,w1.1,w2.1,w1.2,w2.2,aZ,λc hc=>q _ _ (s12\(aA.new hc)) ?_];show RAt _ (tog s (pt g l) (pt g r)) _;rw[z1,z2];show#[c,rfl,aG]
       . refine aX (λz=>m2 0xC) #[5,p,35,aD.of (s12 _ _ e),at0,21,cn,λc hc=>q _ _ (s12\(aA.new hc)) (fin c _ aG (aA.new hc) (.inr (b2 m2)))]
     . refine aX (λz=>m1 0xC) (lR #[5,p,35,aD.of (s12 _ _ e),at0,21,cn,λc hc=>q _ _ (s12\(aA.new hc)) (fin c _ aG (aA.new hc) (.inl (a2 m1)))])
end
end K45
namespace K45
open PySem L2 Gx Fl Bg Wk St Br Cb
section
variable {P:Program} {w:World} {K:Md} {mg:Str->JK Ma} {base:Heap} {t:Adr}
def oC:FnScope ["_law_cell","_law_size","_law_boxes","_law_calm","_law_view_here","_law_k","_law_number"] ["_law_cell","_law_size","_law_boxes","_law_calm"] (az nU):=by walk_at "s"
def Bi (T:Txt K mg t):FnOk P w K mg base CX0 2 t.yt t.zy ["_law_cell","_law_size","_law_boxes","_law_calm"] (CY K):=by
 have Qa:=me (P:=P) (w:=w) (base:=base) T;refine T.AR.F.ok oC (λvs H Q E h=>?_) (λcdv A outer s H vs Q E hr h=>?_)
 . let#[_,_,_,_,_,rfl,_]:=h;rfl
 . skip
   refine lx ?_;intro XX;refine(let W2:TS:=_; have hW2:aY XX ((aV nU).drop 2) W2:=(~~~(a8 4)); ?_);let#[c,sz,bl,bs,cm,rfl,hz,hB,hbs,hc,q]:=h;show#[_,(aH (pS 4 oC.nd (bQ aC)) (aH (cf PassesOwn.never rfl (fO rfl T.b_range (a8 1>=>aC)) (bD (i:=5) oC.nd rfl 0x8) (aH (pS 6 oC.nd (aM bc<$>(aM bE<$>(aM eN<$>a8 0<*>(bN cM<$>aF<*>(aM eN<$>aF<*>a8 5)))<*>aF)<*>aF)) (aH (@du _ _ _ _ (cq Jc Jt Ju gF (a8 4) ((cD T.kE Qa hr ((aM bc<$>a8 6<*>aF)>=>a8 2>=>aC))>=>aC)) 0x0) (@aK _ _ _ (ai (aS ak (aM bE<$>a8 6<*>(bN cM<$>aF<*>(aM eN<$>aF<*>a8 3))) aF (aN _)) (@aK _ _ _ (fJ fi (gO (a8 4) (bO bP aF) gN))) ag))))) hW2)),?_];show#[fA,λl hlH=>?_];show#[21,∅,∅,(let Jv1:Nat->St->Hp->Prop:=λi σ H2=>∃v5 v6 us view,σ=[⇑(.int c),⇑(.int sz),⇑↥bl,⇑(.int cm),⇑↥l,v5,v6]/\aA H H2/\H2 l=⇑(.lst us)/\Rk2.Ps (aO H2) us view/\view.length=i/\ee view/\cQ view; j0 (lo:=0) (n:=sz) Jv1 #[4,[],[],rfl,aA.new hlH,aG,trivial,rfl,(λt h=>by cases h),λt h=>by cases h] ?_ ?_)]
   . rintro i σ H2 hi ⟨v5,v6,us,view,rfl,s2,e2,p2,vl,vo,vn⟩;show#[339,.inl #[#[],#[]],307,.inr #[∅,∅],19,(show(0:Int)<2147483647 by decide),19,#[#[],#[]],?_];generalize c * (48271+2 * (0+(i:Int)))%2147483647 / 3=n6;show#[5,.inl #[6,aE.of e2],83,#[#[],#[]],10,bl,bs,rfl,s2.seq hB,hbs,λtr v H3 s3 r3 t3=>?_];have e3:=s3 _ _ e2;show#[l,19,e3,Rk2.lt_line' (by rw[Rk2.Ps.len p2]; lia),?_];have s03:=s2\s3;show#[339,.inl #[#[],#[]],307,(by show(0:Int)<4+4 * cm; lia),13,?_];by_cases h4:n6%(4+4 * cm)=0
     . refine aL (JG (JW V.int h4)) #[21,l,35,aG,Bh _ _,4,us++[.non],view++[none],rfl,(s03.upd hlH).upd hlH,(by rw[FW]; exact aG),Rk2.Ps.imp (λ_ _ z=>aO.lst aG (aO.lst e3 z)) (Rk2.Ps.app (Rk2.Ps.imp (λ_ _ z=>aO.mono z s3) p2) #[(show aO H3 none .non from rfl),trivial]),(by rw[JF,vl]; rfl),(λt ht=>(JV.mp ht).elim (vo t) λht=>by cases JO.mp ht),λt ht=>(JV.mp ht).elim (vn t) λht=>by cases JO.mp ht]
     . exact aX (λz=>h4 (V.int.inj (aq z))) #[4,us++[v],view++[⇑tr],rfl,s03.upd hlH,aG,Rk2.Ps.imp (λ_ _ z=>aO.lst e3 z) (Rk2.Ps.app (Rk2.Ps.imp (λ_ _ z=>aO.mono z s3) p2) #[r3,trivial]),(by rw[JF,vl]; rfl),(λt ht=>(JV.mp ht).elim (vo t) λht=>by cases JO.mp ht; exact St.TOk.tr9 t3),λt ht=>(JV.mp ht).elim (vn t) λht=>by cases JO.mp ht; exact iS t3]
   . rintro σ H2 ⟨v5,v6,us,view,rfl,s2,e2,p2,vl,vo,vn⟩;show#[5,q l us view H2 s2 hlH e2 p2 #[vl,vo,vn]]
def j6:FnScope ["_law_cell","_law_known","_law_boxes","_law_sets_here","_law_told","_law_k","_law_number","_law_one"] ["_law_cell","_law_known","_law_boxes"] (az nW):=by walk_at "s"
def J3 (T:Txt K mg t):FnOk P w K mg base CX0 2 t.yo t.zu ["_law_cell","_law_known","_law_boxes"] (Eu K):=by
 have Qa:=me (P:=P) (w:=w) (base:=base) T;refine T.AN.F.ok j6 (λvs H Q E h=>?_) (λcdv A outer s H vs Q E hr h=>?_)
 . let#[_,_,_,_,_,_,rfl,_]:=h;rfl
 . skip
   refine lx ?_;intro XX;refine(let W2_2:TS:=_; have hW2_2:aY XX ((sB ((aV nW).getD 2 (.Pass ⟨0,0,0,0⟩))).drop 2) W2_2:=(d8 (ai (@PW.pt _ _ _ (dJ (aS (bN j2) (aM bE<$>a8 6<*>aF) aF (aN _)) (dY (aS (i3 hr.units) (a8 4) (bQ aC) (aN _))))) (@aK _ _ _ (pS 7 j6.nd (iY K (a8 4) (aM bE<$>(aM bc<$>a8 6<*>aF)<*>(bz 0x1 0x0 T.b_len cL (a8 4>=>aC)))))) ag) (@aK _ _ _ (ai (aS (i3 hr.units) (a8 7) (aj (aU>=>bO bP aF>=>aC)) (aN _)) (@aK _ _ _ (@du _ _ _ _ (cq Jc Jt Ju gF (a8 3) ((aj ((iY K (a8 2) (aM bE<$>(bN cM<$>(aM bc<$>a8 0<*>aF)<*>(aM eN<$>aF<*>a8 5))<*>aF))>=>a8 7>=>aC))>=>aC)) 0x0)) ag))); ?_);let#[c,kl,bl,us,ko,bs,rfl,hk,hu,hok,hlen,hB,hbs,q]:=h;show#[_,(aH (pS 3 j6.nd (bQ aC)) (aH (ji (i:=4) j6.nd rfl 0x8 (N':=["_law_one"]) (js:=[none]) (by kernel_rfl) rfl (di (a8 1)) dD (λ_ _ _ _=>(bD (i:=0) (show(["_law_one"]:List Str).Nodup by decide +kernel) rfl 0x8 (.inr rfl))) (λ_ _ _ _=>(rN (fW (iV (a8 0))))) (λ_ _ _ _=>(a8 0)) 0x0) (aH (cf PassesOwn.never rfl (fO rfl T.b_range ((aM bE<$>a8 0<*>aF)>=>aC)) (bD (i:=5) j6.nd rfl 0x8) (aH (pS 6 j6.nd (aM bc<$>(aM bE<$>(aM eN<$>a8 0<*>(bN cM<$>aF<*>(aM eN<$>aF<*>a8 5)))<*>aF)<*>aF)) (aH (pS 7 j6.nd (cD T.kE Qa hr ((aM bc<$>a8 6<*>aF)>=>a8 2>=>aC))) hW2_2))) (~~~(a8 3))))),?_];have lu:=Rk2.Ps.len hu;show#[fA,λl hlH=>?_];have s0:=aA.new (o:=.lst []) hlH;have e0:upd H l (.lst []) l=⇑(.lst []):=aG;generalize upd H l (.lst [])=H0 at s0 e0 ⊢;show#[5,kl,rfl,#[_,s0.seq hk],λpT hpT=>(let Jv1:Nat->List V->Hp->Prop:=λi acc H2=>aA H0 H2/\H2 pT=⇑(.lst acc)/\acc.length<=i/\∃ko',Rk2.Ps (aO (ers pT H2)) acc ko'/\(∀o∈ko',∃t,o=⇑t/\sR t); jT (xs:=us) ∅ Jv1 #[aA.new hpT,aG,JN _,[],trivial,λo h=>by cases h] ?_ ?_ ?_)]
   . rintro i acc H2 hi ⟨s2,e2,l2,_⟩;show#[e2,l2,(s0\s2).seq hk]
   . rintro i y acc H2 hy ⟨s2,e2,l2,ko',p2,k2⟩;let#[u,o,a1,a2,a3]:=Rk2.Ps.at hu (n:=i) (by have:=(JH.mp hy).1; lia);rw[hy] at a1;cases a1;have oo:=hok o (JM a2);cases o with
     | none =>
       cases a3;show#[21,jN #[s2,e2,∅,ko',p2,k2]]
     | some tr =>
       have a4:aO (ers pT H2) ⇑tr y:=aO.mono a3 (gU (s0\s2) (s0.free hpT));show#[21,aL (by let#[p,rfl]:=hU a3; rfl) #[5,e2,s2.upd hpT,aG,(by rw[JF]; simp; lia),ko'++[⇑tr],?_,λo ho=>(JV.mp ho).elim (k2 o) λho=>#[tr,JO.mp ho,oo tr rfl]]];rw[fH];exact Rk2.Ps.app p2 #[a4,trivial]
   rintro acc H1 ⟨s1,e1,l1,ko',p1,k1⟩;have p1:Rk2.Ps (aO H1) acc ko':=Rk2.Ps.imp (λ_ _ z=>aO.mono z cZ) p1;have s01:=s0\s1;have b4:=ce c 4 #[];have ko1:bx ko':=λo ho=>by let#[t,rfl,h]:=k1 o ho; exact .of h.1
   show#[83,(show(0:Int)<4 by decide),5,∅,∅,(let Jv2:Nat->St->Hp->Prop:=λi σ H2=>∃v5 v6 v7 xs ps,σ=[⇑(.int c),⇑↥kl,⇑↥bl,⇑↥l,⇑↥pT,v5,v6,v7]/\aA (ers l H1) H2/\H2 l=⇑(.lst xs)/\Rk2.Ps (gR K (ers l H2)) xs ps/\ps.length<=i/\∀b∈ps,bI b.2/\bh b.2; j0 (lo:=0) (n:=(c%4).toNat) Jv2 #[8,[],[],rfl,cZ,s1 _ _ e0,trivial,JN _,λb h=>by cases h] ?_ ?_)]
   . rintro i σ H2 hi ⟨v5,v6,v7,xs,ps,rfl,s2,e2,p2,l2,o2⟩;have z1:aA H (ers l H1):=gU s01 hlH;have z2:=z1\s2;have nl:pT≠l:=λz=>by rw[z,e0] at hpT; cases hpT
     have eT:ers l H1 pT=⇑(.lst acc):=by rw[bW nl]; exact e1
     have pT1:Rk2.Ps (aO (ers l H1)) acc ko':=Rk2.Ps.imp (λ_ _ z=>jp (s1 _ _ e0) z) p1;show#[339,.inl #[#[],#[]],307,.inr #[∅,∅],19,(show(0:Int)<2147483587 by decide),19,#[#[],#[]],?_];generalize c * (39373+2 * (0+(i:Int)))%2147483587 / 3=n6;show#[83,#[#[],#[]],10,bl,bs,rfl,z2.seq hB,hbs,λtr v H3 s3 r3 t3=>?_];have s13:=s2\s3;show#[λσ' G=>∃tr v,σ'=[⇑(.int c),⇑↥kl,⇑↥bl,⇑↥l,⇑↥pT,⇑(.int (0+(i:Int))),⇑(.int n6),⇑v]/\aA H3 G/\Rk2.RAt G tr v/\sR tr,?_,?_]
     . show#[83,(show(0:Int)<4 by decide),77,?_];by_cases h4:n6%4 > 0
       . refine aL (JG h4) #[5,fA,λq0 hq0=>?_];have s4:=aA.new (o:=.lst []) hq0;have s14:=s13\s4;refine Bn (ko:=ko') (aE.of (s14 _ _ eT)) (Rk2.Ps.imp (λ_ _ z=>aO.mono z s14) pT1) ko1 (aE.of aG) #[5,?_];by_cases hn:acc=[]
         . rw[JG hn];exact jN #[tr,v,rfl,s4,r3*>s4,#[St.TOk.tr t3,.inr (iS t3)]]
         . rw[JP hn];let#[u,o,m1,m2,m3,m4]:=BU (us:=acc) (List.length_pos_iff.mpr hn) (Rk2.Ps.imp (λ_ _ z=>aO.mono z s14) pT1) (n6 / 4);let#[t,rfl,tk]:=k1 o m3;exact aL rfl #[339,#[#[],#[]],5,pT,5,.inl (aE.of (s14 _ _ eT)),19,m1,pT,35,aE.of (s14 _ _ eT),m2,t,u,rfl,s4,m4,tk]
       . exact aX (λz=>h4 (Ke z)) (jN #[tr,v,rfl,aA.refl _,r3,#[St.TOk.tr t3,.inr (iS t3)]])
     . rintro σ' G ⟨t,u,rfl,s4,r4,t4⟩;show#[21,aZ,λq1 hq1=>?_];have s5:=s4\(aA.new (o:=.tup [V.str "box",V.int (-1)]) hq1);refine Cj t4.1 (r4*>(aA.new hq1)) aG #[5,?_];have sF:=s13\s5;have eF:=(s3\s5) _ _ e2;have pF:Rk2.Ps (gR K (ers l (upd G q1 (.tup [V.str "box",V.int (-1)])))) xs ps:=Rk2.Ps.imp (λ_ _ z=>z*>(aA.ers (s3\s5))) p2;have r5:=r4*>(aA.new (o:=.tup [V.str "box",V.int (-1)]) hq1);generalize upd G q1 (.tup [V.str "box",V.int (-1)])=H5 at sF eF pF r5 ⊢;by_cases hb:t=.box (-1)
       . rw[JG hb];exact jN #[8,xs,ps,rfl,sF,eF,pF,∅,o2]
       . rw[JP hb];let#[b,m1,m2,m3]:=xk hbs (c / 4+3 * (0+(i:Int)));have zF:=z1\sF;refine aL rfl #[5,.inl #[6,aE.of eF],339,#[#[],#[]],83,.inl #[#[],#[]],307,(show(0:Int)<8 by decide),bl,35,zF.seq hB,m1,5,aZ,λq2 hq2=>?_];have s6:=aA.new (o:=.tup [V.int b,u]) hq2;have nq:q2≠l:=λz=>by rw[z,eF] at hq2; cases hq2
         show#[l,19,s6 _ _ eF,Rk2.lt_line' (by rw[Rk2.Ps.len pF]; lia),8,xs++[↥q2],ps++[(b,t)],rfl,?_,aG,?_,(by rw[JF]; simp; lia),λx hx=>(JV.mp hx).elim (o2 x) λhx=>by cases JO.mp hx; show#[t4.1,t4.2.resolve_left hb]]
         . exact(sF\s6).upd (by unfold ers; rw[JR rfl])
         . rw[fH];exact Rk2.Ps.app (Rk2.Ps.imp (λ_ _ z=>z*>(aA.ers s6)) pF) #[#[q2,u,rfl,aD.of (by rw[bW nq]; exact aG),oV (s6 _ _ eF) (r5*>s6)],trivial]
   . rintro σ H2 ⟨v5,v6,v7,xs,ps,rfl,s2,e2,p2,l2,o2⟩;show#[5,q l xs ps H2 ((gU s01 hlH)\s2) hlH e2 (Rk2.Ps.imp (λ_ _ z=>z*>cZ) p2) ∅ o2]
def mR:FnScope ["_law_sets_here","_law_box","_law_news_here","_law_there","_law_one"] ["_law_sets_here","_law_box"] (az mW):=by walk_at "s"
def J6 (T:Txt K mg t):FnOk P w K mg base CX0 1 t.yi t.zn ["_law_sets_here","_law_box"] (IV K):=by
 refine T.t8.F.ok mR (λvs H Q E h=>?_) (λcdv A outer s H vs Q E hr h=>?_)
 . let#[_,_,_,_,_,rfl,_]:=h;rfl
 . skip
   refine lx ?_;intro XX;refine(let W2:TS:=_; have hW2:aY XX ((aV mW).drop 2) W2:=(aH (ai (fW (iV (a8 1))) (@aK _ _ _ (fw (cr hr.units) (a8 2) (a8 1) (aj (aU>=>bO bP aF>=>aC)) 0x0)) ag) (~~~(a8 2))); ?_);let#[l,xs,ps,bv,fb,rfl,hfb,hl,hx,hp,q]:=h;show#[_,(aH (pS 2 mR.nd gX) (aH (cf PassesOwn.never rfl (di (a8 0)) (dI rfl (bg (bD (i:=3) mR.nd rfl 0x8) (bg (bD (i:=4) mR.nd rfl 0x8) dL))) (@aK _ _ _ (fw (cr hr.units) (a8 2) (a8 3) (a8 4) 0x0))) hW2)),?_];have lx:=Rk2.Ps.len hx;refine λd hd=>#[5,l,rfl,#[_,(aA.new hd).seq hl],(let Jv1:Nat->St->Hp->Prop:=λi σ H2=>∃v3 v4 kvs,σ=[⇑↥l,⇑bv,⇑↥d,v3,v4]/\aA H H2/\H2 d=⇑(.dK kvs)/\kvs.length<=i/\Rk2.NV H2 kvs ((ps.take i).foldl (λg b=>Rk2.setG g b.1 b.2) λ_=>none); qX (xs:=xs) Jv1 #[4,[],rfl,aA.new hd,aG,JN _,λ_=>rfl] ?_ ?_ ?_)]
   . rintro i σ H2 hi ⟨v3,v4,kvs,rfl,s2,e2,l2,n2⟩;exact s2.seq hl
   . rintro i y σ H2 hy ⟨v3,v4,kvs,rfl,s2,e2,l2,n2⟩;have iw:i<xs.length:=(JH.mp hy).1;let#[u,b,a1,a2,p,x,rfl,hpx,hrx]:=Rk2.Ps.at hx (n:=i) ∅;rw[hy] at a1;cases a1;show#[p,5,s2<*hpx,25813,d,5,eK.k (k:=(Sum.inl b.1:aI)) e2 (Rk2.lt_line' (n:=kvs.length) ∅),17,s2.upd hd,aG,?_,?_]
     . have:=Rk2.putK_len kvs (Sum.inl b.1:aI) x; lia
     . rw[show ps.take (i+1)=ps.take i++[b] by rw[List.take_succ,a2]; rfl,K0];exact(n2.put (hrx*>s2)).upd e2 Rk2.no_dk
   . rintro σ H2 ⟨v3,v4,kvs,rfl,s2,e2,l2,n2⟩;rw[lx,Jw] at n2;rcases hfb with⟨rfl,rfl⟩|⟨i,rfl,rfl⟩
     . show#[21,jN #[5,q d kvs H2 s2 hd e2 (by show Rk2.NV H2 kvs (bZ (ps++[])); rw[K5]; exact n2)]]
     . show#[21,aL 0x0 #[5,aZ,λq1 h1=>?_]];have s3:=aA.new (o:=.tup [V.str "box",V.int (-1)]) h1;have e3:=s3 _ _ e2;have r3:Rk2.RAt (upd H2 q1 (.tup [V.str "box",V.int (-1)])) (.box (-1)) ↥q1:=#[q1,rfl,aG]
       have n3:=n2*>s3;generalize upd H2 q1 (.tup [V.str "box",V.int (-1)])=H3 at s3 e3 r3 n3 ⊢;show#[21,d,5,eK.k (k:=(Sum.inl i:aI)) e3 (Rk2.lt_line' (n:=kvs.length) ∅),5,q d _ _ ((s2\s3).upd hd) hd aG ?_];rw[vB];exact(n3.put r3).upd e3 Rk2.no_dk
def gA:FnScope ["_law_cell","_law_known","_law_news_here","_law_boxes","_law_calm","_law_view_here","_law_k","_law_number","_law_one","_law_box"] ["_law_cell","_law_known","_law_news_here","_law_boxes","_law_calm"] (az kR):=by walk_at "s"
def Il (T:Txt K mg t):FnOk P w K mg base CX0 14 t.yg t.zk ["_law_cell","_law_known","_law_news_here","_law_boxes","_law_calm"] (D0 K):=by
 have Qa:=me (P:=P) (w:=w) (base:=base) T;have Qe:FnOk P w K mg base CX0 12 t.mK t.mL ["_law_one","_law_news_here"] (md K 10):=rj T 10;refine T.AJ.F.ok gA (λvs H Q E h=>?_) (λcdv A outer s H vs Q E hr h=>?_)
 . let#[_,_,_,_,_,_,_,_,_,rfl,_]:=h;rfl
 . skip
   refine lx ?_;intro XX;refine(let W1_5:TS:=_; have hW1_5:aY XX ((sB ((aV kR).getD 1 (.Pass ⟨0,0,0,0⟩))).drop 5) W1_5:=(d8 (ai (@PW.pt _ _ _ (dJ (aS ak (aM bE<$>a8 7<*>aF) aF (aN _)) (dY (lT (xL (K:=K) rfl (a8 4) (by intro _; rfl)))))) (@aK _ _ _ (pS 8 gA.nd (aj (aU>=>(iY K (a8 3) (aM bE<$>(aM bc<$>a8 7<*>aF)<*>aF))>=>aC)))) ag) (@aK _ _ _ (@du _ _ _ _ (cq Jc Jt Ju gF (a8 5) (a8 8>=>aC)) 0x0))); ?_);refine(let W1_3:TS:=_; have hW1_3:aY XX ((sB ((aV kR).getD 1 (.Pass ⟨0,0,0,0⟩))).drop 3) W1_3:=(d8 (ai (aS ak (aM bE<$>a8 7<*>aF) aF (aN _)) (@aK _ _ _ (pS 8 gA.nd fi)) ag) (d8 (ai (@PW.pt _ _ _ (dJ (aS ak (aM bE<$>a8 7<*>aF) aF (aN _)) (dY (lT (xL (K:=K) rfl (a8 4) (by intro _; rfl)))))) (@aK _ _ _ (pS 8 gA.nd (cD T.kE Qa hr ((aM bc<$>a8 7<*>aF)>=>a8 3>=>aC)))) ag) hW1_5)); ?_);let#[c,kl,nd,bl,us,ko,g,bs,cm,rfl,hk,hu,hok,hlen,hN,hB,hbs,q]:=h;show#[_,(aH (pS 5 gA.nd (bQ aC)) (aH (cf PassesOwn.never rfl (fO rfl T.b_range ((bz 0x1 0x0 T.b_len cL (a8 1>=>aC))>=>aC)) (bD (i:=6) gA.nd rfl 0x8) (aH (pS 7 gA.nd (aM bc<$>(aM bE<$>(aM eN<$>a8 0<*>(bN cM<$>aF<*>(aM eN<$>aF<*>a8 6)))<*>aF)<*>aF)) (aH (pS 8 gA.nd (iY K (a8 1) (a8 6))) (d8 (ai (fW (iV (a8 8))) (aH (cf PassesOwn.never rfl (di (a8 3)) (bD (i:=9) gA.nd rfl 0x8) (@aK _ _ _ (ai (@PW.pt _ _ _ (dJ (aS (oM hr.units) (qZ (cr hr.units) (a8 2) (a8 9) (aj (aU>=>a8 9>=>aC)) #[31]) (a8 8) (aN _)) (dY (aS (bN j2) (aM bE<$>(aM bc<$>a8 7<*>aF)<*>aF) aF (aN _))))) (@aK _ _ _ (pS 8 gA.nd (aj (aU>=>a8 9>=>aC)))) ag))) (@aK _ _ _ (ai (@PW.pt _ _ _ (fR (aS (oM hr.units) (a8 8) (aj (aU>=>bO bP aF>=>aC)) (aN _)) (gC (aS (i3 hr.units) (cD T.kF Qe hr (a8 8>=>a8 2>=>aC)) (iY K (a8 1) (a8 6)) (aN _))))) (@aK _ _ _ (pS 8 gA.nd fi)) ag))) ag) hW1_3)))) (~~~(a8 5)))),?_];have lu:=Rk2.Ps.len hu;obtain⟨⟨kvs,ed,nv⟩,gok⟩:=hN;show#[fA,λl hlH=>?_];show#[5,kl,5,.inl ((aA.new hlH).seq hk),5,∅,∅,(let Jv1:Nat->St->Hp->Prop:=λi σ H2=>∃v6 v7 v8 v9 ws view,σ=[⇑(.int c),⇑↥kl,⇑↥nd,⇑↥bl,⇑(.int cm),⇑↥l,v6,v7,v8,v9]/\aA H H2/\H2 l=⇑(.lst ws)/\Rk2.Ps (aO H2) ws view/\view.length=i/\bx view/\cQ view; j0 (lo:=0) (n:=us.length) Jv1 #[16,[],[],rfl,aA.new hlH,aG,trivial,rfl,(λt h=>by cases h),λt h=>by cases h] ?_ ?_)]
   . rintro i σ H2 hi ⟨v6,v7,v8,v9,ws,view,rfl,s2,e2,p2,vl,vo,vn⟩;show#[339,.inl #[#[],#[]],307,.inr #[∅,∅],19,(show(0:Int)<2147483647 by decide),19,#[#[],#[]],?_];generalize c * (48271+2 * (0+(i:Int)))%2147483647 / 3=n6;let#[u,o1,a1,a2,a3]:=Rk2.Ps.at hu (n:=i) ∅;have ok1:=hok o1 (JM a2);have a1':ay us (0+(i:Int))=⇑u:=by rw[L7]; exact bf a1
     show#[21,kl,35,s2.seq hk,a1',?_];have r2:=aO.mono a3 s2;show#[λσ' G=>∃(o:JK Rk2.Tr) (v:V) (v9:JK V),σ'=[⇑(.int c),⇑↥kl,⇑↥nd,⇑↥bl,⇑(.int cm),⇑↥l,⇑(.int (0+(i:Int))),⇑(.int n6),⇑v,v9]/\aA H2 G/\aO G o v/\d9 o/\fK o,?_,?_]
     . cases o1 with
       | none =>
         cases a3;show#[21,jN #[none,.non,v9,rfl,aA.refl _,rfl,d9.no,fK.no]]
       | some tr =>
         show#[21,aL (by let#[p,rfl]:=hU r2; rfl) ?_];have tk:=ok1 tr rfl;show#[5,bl,rfl,#[_,s2.seq hB],(let Jv2:Nat->St->Hp->Prop:=λj σ G=>∃(t:Rk2.Tr) (v:V) (v9:JK V),σ=[⇑(.int c),⇑↥kl,⇑↥nd,⇑↥bl,⇑(.int cm),⇑↥l,⇑(.int (0+(i:Int))),⇑(.int n6),⇑v,v9]/\aA H2 G/\Rk2.RAt G t v/\sR t; qX (xs:=bs.map V.int) Jv2 #[tr,u,v9,rfl,aA.refl _,r2,tk] ?_ ?_ ?_)]
         . rintro j σ G hj ⟨t,v,v9,rfl,s3,_⟩;exact(s2\s3).seq hB
         . rintro j y σ G hy ⟨t,v,v9,rfl,s3,r3,t3⟩;rw[JS,Jg] at hy;let#[b,hb,rfl]:=hy;have bb:=hbs.2 b (JM hb);have s03:=s2\s3;show#[5,nd,rfl,.inl #[kvs,.inl (s03 _ _ ed)],21,aZ,λq1 h1=>?_];have s4:=aA.new (o:=.tup [V.str "box",V.int b]) h1;have e4:upd G q1 (.tup [V.str "box",V.int b]) q1=⇑(.tup [V.str "box",V.int b]):=aG;have s04:=s03\s4;have r4:Rk2.RAt (upd G q1 (.tup [V.str "box",V.int b])) ((g b).getD (.box b)) ((bM kvs (Sum.inl b:aI)).getD ↥q1):=by
             cases eg:g b with
             | none=>rw[nv.no eg]; show#[q1,rfl,e4]
             | some t=>let#[x,x1,x2]:=nv.yes eg; rw[x1]; exact x2*>s04
           have t4:bI ((g b).getD (.box b)):=by
             cases eg:g b with
             | none=>show#[Rk2.okl_box b,trivial,by show 0<10; decide]
             | some t=>exact gok b t eg
           show#[_,eJ.k (k:=Sum.inl b) (s04 _ _ ed),5,CD t4 t3.1 r4 (r3*>s4) #[5,?_]];have s24:=s3\s4;have r34:=r3*>s4;generalize upd G q1 (.tup [V.str "box",V.int b])=G4 at s4 e4 s04 r4 s24 r34 ⊢;cases PyData.eqv (bL ((g b).getD (.box b))) (bL t) with
           | false=>exact jN (jN #[t,v,5,s24,r34,t3])
           | true =>
             refine aL rfl #[83,#[#[],#[]],19,(show(0:Int)<4 by decide),77,?_];by_cases h4:n6 / 8%4 > 0
             . exact aL (JG h4) #[5,aZ,λq2 h2=>#[.box b,9,s24\(aA.new h2),#[q2,rfl,aG],#[Rk2.okl_box b,trivial,by show 0<10; decide],.inr (λz=>by lia)]]
             . exact aX (λz=>h4 (Ke z)) #[t,v,5,s24,r34,t3]
         . rintro σ G ⟨t,v,v9,rfl,s3,r3,t3⟩;show#[21,aZ,λq1 h1=>?_];have s4:=s3\(aA.new (o:=.tup [V.str "box",V.int (-1)]) h1);refine Aq t3.1 (r3*>(aA.new h1)) aG #[5,?_];have r4:=r3*>(aA.new (o:=.tup [V.str "box",V.int (-1)]) h1);generalize upd G q1 (.tup [V.str "box",V.int (-1)])=G4 at s4 r4 ⊢;by_cases hb:t=.box (-1)
           . rw[JG hb];exact aL rfl (aL rfl #[none,.non,v9,rfl,s4,rfl,d9.no,fK.no])
           . rw[JP hb];have s04:=s2\s4;refine jN #[21,t,v,nd,kvs,g,rfl,t3.1.2.2,r4,s04 _ _ ed,nv*>s04,t3.1.1,(λk t h=>(gok k t h).1),λv5 G5 s5 r5=>?_];have s45:=s4\s5;show#[21,kl,35,(s2\s45).seq hk,a1',xK (o:=⇑tr) (xP gok t3.1) (λu e=>(ok1 u e).1) r5 (aO.mono r2 s45) #[5,?_]];cases gu (Rk2.pt g t) ⇑tr with
             | true=>exact jN #[⇑t,v,v9,rfl,s45,r4*>s5,.of t3.1,.of (t3.2.resolve_left hb)]
             | false=>exact aL rfl #[none,.non,v9,rfl,s45,rfl,d9.no,fK.no]
     clear v9;rintro σ' G ⟨o,v,v9,rfl,s3,r3,o3,n3⟩;show#[λσ' G=>∃(o:JK Rk2.Tr) (v:V) (v9:JK V),σ'=[⇑(.int c),⇑↥kl,⇑↥nd,⇑↥bl,⇑(.int cm),⇑↥l,⇑(.int (0+(i:Int))),⇑(.int n6),⇑v,v9]/\aA H2 G/\aO G o v/\d9 o/\fK o,?_,?_]
     . show#[83,(show(0:Int)<8 by decide),13,?_];by_cases h8:n6%8=0
       . exact aL (JG (JW V.int h8)) #[none,.non,v9,rfl,s3,rfl,d9.no,fK.no]
       . exact aX (λz=>h8 (V.int.inj (aq z))) #[o,v,v9,rfl,s3,r3,o3,n3]
     clear s3 r3 n3 o3 o v v9;rintro σ' G ⟨o,v,v9,rfl,s3,r3,o3,n3⟩;show#[λσ' G=>∃(o:JK Rk2.Tr) (v:V) (v9:JK V),σ'=[⇑(.int c),⇑↥kl,⇑↥nd,⇑↥bl,⇑(.int cm),⇑↥l,⇑(.int (0+(i:Int))),⇑(.int n6),⇑v,v9]/\aA H2 G/\aO G o v/\d9 o/\fK o,?_,?_]
     . show#[83,(show(0:Int)<8 by decide),13,?_];by_cases h8:n6%8=1
       . refine aL (JG (JW V.int h8)) #[21,?_];by_cases hcm:cm=0
         . subst hcm;refine aL #[] ?_;show#[83,#[#[],#[]],10,bl,bs,rfl,(s2\s3).seq hB,hbs,λtr v4 H4 s4 r4 t4=>#[⇑tr,v4,v9,rfl,s3\s4,r4,.of (St.TOk.tr t4),.of (iS t4)]]
         . exact aX (by simp [hcm]) #[o,v,v9,rfl,s3,r3,o3,n3]
       . exact aX (λz=>h8 (V.int.inj (aq z))) (jN #[o,v,v9,rfl,s3,r3,o3,n3])
     clear s3 r3 n3 o3 o v v9;rintro σ' G ⟨o,v,v9,rfl,s3,r3,o3,n3⟩;show#[λσ' G=>∃(o:JK Rk2.Tr) (v:V) (v9:JK V),σ'=[⇑(.int c),⇑↥kl,⇑↥nd,⇑↥bl,⇑(.int cm),⇑↥l,⇑(.int (0+(i:Int))),⇑(.int n6),⇑v,v9]/\aA H2 G/\aO G o v/\d9 o/\fK o,?_,?_]
     . show#[83,(show(0:Int)<8 by decide),13,?_];by_cases h8:n6%8=2
       . refine aL (JG (JW V.int h8)) #[21,?_];by_cases hcm:cm=0
         . subst hcm;refine aL #[] ?_;let#[b,m1,m2]:=xk hbs (n6 / 8);show#[339,#[#[],#[]],19,(show(0:Int)<8 by decide),bl,35,(s2\s3).seq hB,m1,aZ,λq1 h1=>#[⇑(.box b),_,v9,rfl,s3\(aA.new h1),#[q1,rfl,aG],.of #[Rk2.okl_box b,trivial,by show 0<10; decide],.of (λz=>by lia)]]
         . exact aX (by simp [hcm]) #[o,v,v9,rfl,s3,r3,o3,n3]
       . exact aX (λz=>h8 (V.int.inj (aq z))) (jN #[o,v,v9,rfl,s3,r3,o3,n3])
     clear s3 r3 n3 o3 o v v9;rintro σ' G ⟨o,v,v9,rfl,s3,r3,o3,n3⟩;have e3:=s3 _ _ e2;show#[5,.inl #[6,aE.of e3],5,l,19,e3,Rk2.lt_line' (by rw[Rk2.Ps.len p2]; lia),16,ws++[v],view++[o],rfl,(s2\s3).upd hlH,aG,Rk2.Ps.imp (λ_ _ z=>aO.lst e3 z) (Rk2.Ps.app (Rk2.Ps.imp (λ_ _ z=>aO.mono z s3) p2) #[r3,trivial]),(by rw[JF,vl]; rfl),vo.app (λp hp=>by cases JO.mp hp; exact o3),λt ht=>(JV.mp ht).elim (vn t) λht=>n3 t (JO.mp ht).symm]
   . rintro σ H2 ⟨v6,v7,v8,v9,ws,view,rfl,s2,e2,p2,vl,vo,vn⟩;show#[5,q l ws view H2 s2 hlH e2 p2 #[∅,vo,vn]]
def kY:FnScope ["_law_mark","_law_chain_here","_law_known","_law_news_here","_law_view_here","_law_told","_law_place","_law_one"] ["_law_mark","_law_chain_here","_law_known","_law_news_here"] (az lQ):=by walk_at "s"
def An (T:Txt K mg t):FnOk P w K mg base CX0 14 t.yf t.zj ["_law_mark","_law_chain_here","_law_known","_law_news_here"] (EK K):=by
 have Qe:FnOk P w K mg base CX0 12 t.mK t.mL ["_law_one","_law_news_here"] (md K 10):=rj T 10;refine T.AI.F.ok kY (λvs H Q E h=>?_) (λcdv A outer s H vs Q E hr h=>?_)
 . let#[_,_,_,_,_,_,_,_,_,rfl,_]:=h;rfl
 . skip
   refine lx ?_;intro XX;refine(let W2:TS:=_; have hW2:aY XX ((aV lQ).drop 2) W2:=(~~~dr); ?_);refine(let W1:TS:=_; have hW1:aY XX ((aV lQ).drop 1) W1:=(aH (cf PassesOwn.never rfl (jY false false rfl T.b_zip ((iT K (a8 0))>=>a8 2>=>aC)) (dI rfl (bg (bD (i:=4) kY.nd rfl 0x8) (bg (bD (i:=5) kY.nd rfl 0x8) dL))) (@aK _ _ _ (cf PassesOwn.never rfl (jY false false rfl T.b_zip (a8 4>=>a8 5>=>aC)) (dI rfl (bg (bD (i:=6) kY.nd rfl 0x8) (bg (bD (i:=7) kY.nd rfl 0x8) dL))) (@aK _ _ _ (ai (@PW.pt _ _ _ (dJ (fW (iV (a8 6))) (dY (@PW.pt _ _ _ (fR (fW (nM (a8 7))) (gC (aS (i3 hr.units) (cD T.kF Qe hr (a8 6>=>a8 3>=>aC)) (a8 7) (aN _)))))))) (~~~dr) ag))))) hW2); ?_);let#[mv,cv,kA,d,L,ch,kl,Kn,g,rfl,hM,hC,hK,hk,hN,hO,q]:=h;show#[_,(aH (ai (aS (i3 hr.units) (iT K (a8 0)) (a8 1) (aN _)) (~~~dr) ag) hW1),?_];let#[mp,c_,w_,ws,rfl,hmp,hmc,hmw,hmws]:=hM;have hmc:cX K H (L.map Lev.fr) c_:=hmc;have hmws:Rk2.Ps (gy K H) ws (L.map Lev.vw):=hmws;obtain⟨⟨kvs,ed,nv⟩,gok⟩:=hN;have n1:∀c∈L.map Lev.fr,PyData.strOk c.1=true:=λc hc=>by let#[e,he,rfl]:=Jh.mp hc;exact hO.n e he
   unfold gG at q;show#[5,mp,35,hmp,at0,5,wm n1 hO.c hmc hC #[5,?_]];by_cases hch:L.map Lev.fr=ch
   case neg =>
     rw[JP hch] at q ⊢;exact aL rfl (q H (aA.refl _))
   rw[JG hch,K3] at q;rw[JG hch];have l1:=Rk2.Ps.len hmws;have l2:=Rk2.Ps.len hk;refine jN #[5,mp,35,hmp,13,w_,kA,rfl,#[_,hmw],#[_,hK],(let Jv1:Nat->St->Hp->Prop:=λi σ G=>∃v5 v6 v7 v8:JK V,σ=[⇑↥mp,⇑cv,⇑↥kA,⇑↥d,v5,v6,v7,v8]/\aA H G/\∀j p,j<i->((L.map Lev.vw).zip Kn)[j]?=⇑p->gj g p.1 p.2=true; lK (b1:=false) (b2:=false) (xs:=ws) (ys:=kl) Jv1 #[33,aA.refl _,λj p hj=>absurd hj (K9 j)] ?_ ?_ ?_)]
   . rintro i σ G hi ⟨v5,v6,v7,v8,rfl,s1,hb⟩;show#[s1.seq hmw,s1.seq hK]
   . rintro i y z σ G b hy hz ⟨v5,v6,v7,v8,rfl,s1,hb⟩ nb;let#[u1,vw,b1,b2,vl,us,rfl,hvl,hus]:=Rk2.Ps.at hmws (n:=i) (by have:=(JH.mp hy).1; lia);rw[hy] at b1;cases b1;let#[u2,kn,c1,c2,tl,us2,rfl,htl,hus2]:=Rk2.Ps.at hk (n:=i) (by have:=(JH.mp hz).1; lia);rw[hz] at c1;cases c1;have vok:bx vw:=by let#[e,he,rfl]:=Jh.mp (JM b2);exact hO.v e he
     have kok:=hO.k kn (JM c2);have s2:=s1\(aA.new (o:=.tup [V.ref vl,V.ref tl]) nb);show#[b,5,aD.of aG,403,?_];generalize upd G b (.tup [V.ref vl,V.ref tl])=G1 at s2 ⊢;have m1:=Rk2.Ps.len hus;have m2:=Rk2.Ps.len hus2;show#[21,vl,tl,rfl,#[_,s2.seq hvl],#[_,s2.seq htl],(let Jv2:Nat->St->Hp->Prop:=λj σ G3=>∃v7 v8:JK V,σ=[⇑↥mp,⇑cv,⇑↥kA,⇑↥d,⇑↥vl,⇑↥tl,v7,v8]/\aA H G3/\∀j' po,j'<j->(vw.zip kn)[j']?=⇑po->jb g po.1 po.2=true; lK (b1:=false) (b2:=false) (xs:=us) (ys:=us2) Jv2 #[9,s2,λj p hj=>absurd hj (K9 j)] ?_ ?_ ?_)]
     . rintro j σ G3 hj ⟨v7,v8,rfl,s3,h3⟩;show#[s3.seq hvl,s3.seq htl]
     . rintro j y z σ G3 b3 hy' hz' ⟨v7,v8,rfl,s3,h3⟩ nb3;let#[w1,pl,d1,d2,d3]:=Rk2.Ps.at hus (n:=j) (by have:=(JH.mp hy').1; lia);rw[hy'] at d1;cases d1;let#[w2,o,f1,f2,f3]:=Rk2.Ps.at hus2 (n:=j) (by have:=(JH.mp hz').1; lia);rw[hz'] at f1;cases f1;have hz3:(vw.zip kn)[j]?=⇑(pl,o):=Jz.mpr #[d2,f2];have s4:=s3\(aA.new (o:=.tup [y,z]) nb3);show#[b3,5,aD.of aG,403,?_];generalize upd G3 b3 (.tup [y,z])=G4 at s4 ⊢;have step:∀G5,aA H G5->jb g pl o=true->∃v7 v8:JK V,[⇑↥mp,⇑cv,⇑↥kA,⇑↥d,⇑↥vl,⇑↥tl,⇑y,⇑z]=[⇑↥mp,⇑cv,⇑↥kA,⇑↥d,⇑↥vl,⇑↥tl,v7,v8]/\aA H G5/\∀j' po,j'<j+1->(vw.zip kn)[j']?=⇑po->jb g po.1 po.2=true:=λG5 s5 h5=>#[9,s5,λj' po hj' hn=>by
         rcases Km.mp hj' with h|h
         . exact h3 j' po h hn
         . subst h;rw[hz3] at hn;cases hn;exact h5]
       have no:∀G5,aA H G5->jb g pl o=false->Q (.bl false) G5:=λG5 s5 h5=>by
         have:iO g (L.map Lev.vw) Kn=false:=by unfold iO;rw[LP];show#[(vw,kn),JM (Jz.mpr #[b2,c2]),?_];show ¬ gj _ vw kn=true;rw[Bool.not_eq_true];unfold gj;rw[LP];show#[(pl,o),JM hz3,by rw[h5]; decide]
         rw[this] at q;exact q G5 s5
       cases pl with
       | none =>
         cases d3;show#[21,jN (jN (step G4 s4 rfl))]
       | some tr =>
         have d4:=aO.mono d3 s4;have tok:=vok _ (JM d2) tr rfl;show#[21,aL (by let#[p,rfl]:=hU d4; rfl) ?_];have f4:=aO.mono f3 s4;cases o with
         | none =>
           cases f4;show#[21,aL rfl (aL rfl (no G4 s4 rfl))]
         | some tr2 =>
           show#[21,aX (by let#[p,rfl]:=hU f4; simp) ?_];show#[21,tr,y,d,kvs,g,rfl,tok.2.2,d4,s4 _ _ ed,nv*>s4,tok.1,(λk t h=>(gok k t h).1),λv5 G5 s5 hv5=>?_];show#[5,xK (o:=⇑tr2) (xP gok tok) (kok _ (JM f2)) hv5 (aO.mono f4 s5) #[5,?_]];cases hE:gu (Rk2.pt g tr) ⇑tr2 with
           | true=>exact jN (step G5 (s4\s5) hE)
           | false=>exact aL rfl (no G5 (s4\s5) hE)
     . rintro σ G3 ⟨v7,v8,rfl,s3,h3⟩;show#[33,s3,λj p hj hz4=>?_];rcases Km.mp hj with h|h
       . exact hb j p h hz4
       . subst h;rw[Jz,b2,c2] at hz4;let#[y1,y2]:=hz4;cases y1;cases y2;unfold gj;rw[Kh];intro po hpo;let#[j',hj',e']:=L8 hpo;exact h3 j' po (by rw[KZ] at hj'; lia) (by rw[<- e']; exact JU hj')
   . rintro σ G ⟨v5,v6,v7,v8,rfl,s1,hb⟩;have:iO g (L.map Lev.vw) Kn=true:=by unfold iO;rw[Kh];intro p hp;let#[j',hj',e']:=L8 hp;exact hb j' p (by rw[KZ] at hj'; lia) (by rw[<- e']; exact JU hj')
     rw[this] at q;exact q G s1
def IX:FnScope ["_law_cell","_law_names_here"] ["_law_cell","_law_names_here"] (az sM):=by walk_at "s"
def FF (T:Txt K mg t):FnOk P w K mg base CX0 1 t.yZ t.ze ["_law_cell","_law_names_here"] (AW K):=by
 refine T.oj.F.ok IX (λvs H Q E h=>?_) (λcdv A outer s H vs Q E hr h=>?_)
 . let#[_,_,_,rfl,_]:=h;rfl
 . let#[c,nl,ws,rfl,hn,h20,q]:=h;show#[_,(aH (ai (@PW.pt _ _ _ (fR (aS ak (aM bE<$>a8 0<*>aF) aF (aN _)) (gC (aS (Gq hr.units) (a8 1) (bQ aC) (aN _))))) (~~~(aM bE<$>(aM bc<$>a8 0<*>aF)<*>(aM lB<$>aF<*>aF))) ag) (~~~(iY K (a8 1) (aM bE<$>(aM bc<$>a8 0<*>aF)<*>(bz 0x1 0x0 T.b_len cL (a8 1>=>aC)))))),?_];have yes:∀H',aA H H'->Q (.int (c / 5%(2:Int) ^ (48:Int).toNat)) H':=λH' s=>by have b5:=ce (c / 5) ((2:Int) ^ (48:Int).toNat) Rk2.pos48;rw[Rk2.pw48] at b5;exact q _ _ s (.inl #[5,by rw[Rk2.pw48]; exact b5.1,by rw[Rk2.pw48]; exact b5.2])
   show#[83,(show(0:Int)<5 by decide),13,?_];by_cases h5:c%5=0
   . exact aL (JG (JW V.int h5)) (aL rfl #[83,#[#[],#[]],19,#[#[],#[],#[]],19,Rk2.pos48,yes _ (aA.refl _)])
   refine aX (λz=>h5 (V.int.inj (aq z))) #[5,fA,λe he=>#[nl,e,11,(aA.new he).seq hn,aE.of aG,5,?_]];cases ws with
   | nil=>exact aL rfl #[83,#[#[],#[]],19,#[#[],#[],#[]],19,Rk2.pos48,yes _ (aA.new he)]
   | cons w ws =>
     let#[n,e1,e2,e3]:=xu (ws:=w::ws) 0x6 (c / 5);exact aX 0x6 #[339,#[#[],#[]],5,nl,5,.inl ((aA.new he).seq hn),19,e1,nl,35,(aA.new he).seq hn,e2,q _ _ (aA.new he) (.inr #[n,e3,rfl])]
def ek:FnScope ["_law_cells","_law_words","_law_own","_law_many","_law_inner","_law_names_here","_law_outer","_law_rows","_law_program_here","_law_pads","_law_given","_law_follow"] ["_law_cells","_law_words","_law_own"] (az iK):=by walk_at "s"
def Ik (T:Txt K mg t):FnOk P w K mg base CX0 2 t.yl t.zq ["_law_cells","_law_words","_law_own"] (Fk K):=by
 have Qf:=xO (P:=P) (w:=w) (base:=base) T;have Qp:=FF (P:=P) (w:=w) (base:=base) T;refine T.AL.F.ok ek (λvs H Q E h=>?_) (λcdv A outer s H vs Q E hr h=>?_)
 . let#[_,_,_,_,_,_,_,rfl,_]:=h;rfl
 . skip
   refine lx ?_;intro XX;refine(let W13:TS:=_; have hW13:aY XX ((aV iK).drop 13) W13:=(aH (pS 9 ek.nd (jo<$>(bQ ((aj (aU>=>(iL K (a8 6))>=>aF>=>aC))>=>aC))<*>(aM bE<$>(aM bc<$>(iL K (a8 0))<*>aF)<*>aF))) (aH (pS 7 ek.nd (dh<$>a8 9<*>(bQ ((aj (aU>=>(iY K (a8 6) (aM bE<$>(aM bc<$>(iL K (a8 0))<*>aF)<*>aF))>=>(iL K (a8 1))>=>(dG lj (aj ((iL K (a8 6))>=>aF>=>(iL K (a8 6))>=>aF>=>aC)) dO (dB (bz 0x1 0x0 T.b_len cL (a8 5>=>aC))))>=>aC))>=>aC)))) (aH (@du _ _ _ _ (cq Jc Jt Ju gF (a8 8) ((aj ((iL K (a8 1))>=>dr>=>(br fX 0x0 T.b_tuple fS (a8 6>=>aC))>=>(br fX 0x0 T.b_tuple fS ((dh<$>a8 7<*>(bQ ((aj (aU>=>aF>=>aC))>=>(aj (aU>=>aF>=>aC))>=>aC)))>=>aC))>=>aC))>=>aC)) 0x0) (~~~(aj (a8 8>=>(bQ (a8 4>=>a8 5>=>a8 6>=>aC))>=>aC)))))); ?_);refine(let W10:TS:=_; have hW10:aY XX ((aV iK).drop 10) W10:=(aH (pS 7 ek.nd (dh<$>a8 9<*>(bQ ((aj (aU>=>(iY K (a8 5) (aM bE<$>(iL K (a8 0))<*>(bz 0x1 0x0 T.b_len cL (a8 5>=>aC))))>=>(iY K (a8 1) (a8 2))>=>a8 10>=>aC))>=>a8 11>=>aC)))) (aH (@du _ _ _ _ (cq Jc Jt Ju gF (a8 7) ((aj (aU>=>(cD T.oj Qp hr ((iL K (a8 0))>=>a8 5>=>aC))>=>aC))>=>aC)) 0x0) (d8 (@du _ _ _ _ (cq Jc Jt Ju gF (a8 8) ((aj ((iL K (a8 1))>=>(cW ak (aM bE<$>(aM bc<$>(iL K (a8 0))<*>aF)<*>aF) aF (aN _))>=>(br fX 0x0 T.b_tuple fS (a8 5>=>aC))>=>(br fX 0x0 T.b_tuple fS (a8 7>=>aC))>=>aC))>=>aC)) 0x0) hW13))); ?_);refine(let W8:TS:=_; have hW8:aY XX ((aV iK).drop 8) W8:=(aH (pS 11 ek.nd (aj (aU>=>aF>=>aC))) (d8 (ai (aS ak (aM bE<$>(aM bc<$>(iL K (a8 0))<*>aF)<*>aF) aF (aN _)) (@aK _ _ _ (pS 11 ek.nd (iL K (dh<$>a8 9<*>(bQ ((aj (aU>=>aF>=>aC))>=>aC)))))) ag) hW10)); ?_);refine(let W6:TS:=_; have hW6:aY XX ((aV iK).drop 6) W6:=(aH (pS 9 ek.nd (jo<$>(bQ ((aj (aU>=>(iL K (a8 5))>=>(iL K (a8 1))>=>(dG lj (aj (aF>=>(iL K (a8 5))>=>aF>=>(iL K (a8 5))>=>aF>=>(iL K (a8 5))>=>aC)) dO (dB (a8 3)))>=>aC))>=>aC))<*>(aM bE<$>(iL K (a8 0))<*>aF))) (aH (pS 10 ek.nd (br fX 0x0 T.b_tuple fS ((dg (N':=["_law_k","_law_names_here","_law_cells"]) (js:=[none,some 5,some 0]) (by kernel_rfl) rfl (fO rfl T.b_range ((iY K (bQ (a8 3>=>(bz 0x1 0x0 T.b_len cL (a8 5>=>aC))>=>aC)) (a8 2))>=>aC)) dD (λ_ _ _ _=>(bD (i:=0) (show(["_law_k","_law_names_here","_law_cells"]:List Str).Nodup by decide +kernel) rfl 0x8 (.inr rfl))) (λ_ _ _ _=>dC) (λ_ _ _ _=>(cD T.oj Qp hr ((aM bc<$>(iY K (a8 2) (bN cM<$>aF<*>(aM bE<$>a8 0<*>aF)))<*>(bN cM<$>aF<*>a8 0))>=>a8 1>=>aC))))>=>aC))) hW8)); ?_);refine(let W4:TS:=_; have hW4:aY XX ((aV iK).drop 4) W4:=(aH (pS 7 ek.nd (dh<$>(dg (N':=["_law_name"]) (js:=[none]) (by kernel_rfl) rfl (di (dG fZ (a8 4) (dB (a8 3)) dO)) dD (λ_ _ _ _=>(bD (i:=0) (show(["_law_name"]:List Str).Nodup by decide +kernel) rfl 0x8 (.inr rfl))) (λ_ _ _ _=>dC) (λ_ _ _ _=>(aj (aU>=>a8 0>=>aF>=>aC))))<*>(bQ ((aj (aU>=>aF>=>aC))>=>(aj (aU>=>(cD T.oj Qp hr ((iL K (a8 0))>=>a8 4>=>aC))>=>aC))>=>aC)))) (d8 (pS 8 ek.nd (bQ ((aj ((iL K (a8 1))>=>(cW ak (aM bE<$>(aM bc<$>(iL K (a8 0))<*>aF)<*>aF) aF (aN _))>=>(br fX 0x0 T.b_tuple fS ((dG fZ (a8 4) dO (dB (a8 3)))>=>aC))>=>(br fX 0x0 T.b_tuple fS (a8 7>=>aC))>=>aC))>=>aC))) hW6)); ?_);let#[cl,wl,cs,w0,w1,w2,own,rfl,hcl,h10,hwl,nd,hnm,ho,q]:=h;show#[_,(aH (pS 3 ek.nd (aM bE<$>(iL K (a8 0))<*>aF)) (aH (pS 4 ek.nd (cD T.mM Qf hr ((iL K (a8 0))>=>(bN cM<$>a8 3<*>(aM bE<$>(aM bc<$>(iL K (a8 0))<*>aF)<*>aF))>=>aC))) (aH (pS 5 ek.nd (cD T.mM Qf hr ((iL K (a8 0))>=>(bN cM<$>aF<*>(aM bE<$>(aM bc<$>(iL K (a8 0))<*>aF)<*>aF))>=>aC))) (aH (pS 6 ek.nd (cD T.mM Qf hr ((iL K (a8 0))>=>aF>=>aC))) hW4)))),?_];have SH:=aA.refl H;have F:=Al.nil (H:=H);let#[c0,hc0]:=cx (cs:=cs) (j:=0) ∅;let#[c1,hc1]:=cx (cs:=cs) (j:=1) ∅;let#[c2,hc2]:=cx (cs:=cs) (j:=2) ∅;let#[c3,hc3]:=cx (cs:=cs) (j:=3) ∅;let#[c4,hc4]:=cx (cs:=cs) (j:=4) ∅;let#[c5,hc5]:=cx (cs:=cs) (j:=5) ∅;let#[c6,hc6]:=cx (cs:=cs) (j:=6) ∅;let#[c7,hc7]:=cx (cs:=cs) (j:=7) ∅;let#[c8,hc8]:=cx (cs:=cs) (j:=8) ∅;let#[c9,hc9]:=cx (cs:=cs) (j:=9) ∅;obtain⟨m,hm⟩:∃m:Nat,c1%7=(m:Int):=#[(c1%7).toNat,by have:=ce c1 7 #[]; lia]
   have m7:m<7:=by have:=ce c1 7 #[]; lia
   show#[5,cl,35,hcl,hc1,19,(show(0:Int)<7 by decide),?_];rw[hm];obtain⟨na,hna,na3⟩:∃na:Nat,(m:Int)+c1 / 7%3=(na:Int)/\m<=na/\na<m+3:=#[((m:Int)+c1 / 7%3).toNat,by have:=ce (c1 / 7) 3 #[]; lia,by have:=ce (c1 / 7) 3 #[]; lia]
   show#[5,cl,35,hcl,hc0,21,cl,35,hcl,hc1,19,#[#[],#[]],19,(show(0:Int)<3 by decide),19,c0,na,(by show [V.int c0,V.int ((m:Int)+c1 / 7%3)]=_; rw[hna]),∅,λwa la nda nma n1 H1 sn _ e_n1=>?_];have F:=F.mono sn; have hcl:=F.1.seq hcl; have hwl:=F.1.seq hwl; have SH:=SH.trans F.1; have F:=F.re; have F:=F.add e_n1
   clear hna;obtain⟨nb,hnb,nb3⟩:∃nb:Nat,3+c1 / 21%2=(nb:Int)/\3<=nb/\nb<5:=#[(3+c1 / 21%2).toNat,by have:=ce (c1 / 21) 2 #[]; lia,by have:=ce (c1 / 21) 2 #[]; lia]
   show#[5,cl,35,hcl,hc2,5,cl,35,hcl,hc1,19,#[#[],#[]],19,(show(0:Int)<2 by decide),19,c2,nb,(by show [V.int c2,V.int (3+c1 / 21%2)]=_; rw[hnb]),∅,λwb lb ndb nmb n2 H2 sn _ e_n2=>?_];have F:=F.mono sn; have hcl:=F.1.seq hcl; have hwl:=F.1.seq hwl; have SH:=SH.trans F.1; have F:=F.re; have F:=F.add e_n2
   clear hnb hm;show#[5,cl,35,hcl,hc3,c3,(2),rfl,#[],λwc lc ndc nmc n3 H3 sn _ e_n3=>?_];have F:=F.mono sn; have hcl:=F.1.seq hcl; have hwl:=F.1.seq hwl; have SH:=SH.trans F.1; have F:=F.re; have F:=F.add e_n3
   let#[o0,o1,rfl]:=BC lc;show#[85,n1,5,aE.of (F.g 2 rfl),λsl k=>?_];rw[qz,<- MZ];generalize eh:upd H3 sl _=B1; have F:=F.nh k eh
   show#[sl,rfl,#[_,aE.of F.2.1],λcp hcp=>iR (xs:=(wa.drop m).map V.str) (λi G v=>∃q n,(wa.drop m)[i]?=⇑n/\v=↥q/\aD K G q [.str "copy",.str n,.int 0]) (λi v G G' s z244_=>by let#[q,n,a,b,c]:=z244_; show#[q,n,a,b,s<*c]) (by rw[JE,KI]; lia) (aE.of F.2.1) hcp ?_ ?_]
   . rintro i x G R_ hx sG ⟨acc,eacc⟩ kk;rw[JS,Jg] at hx;let#[n,hn,rfl]:=hx;show#[5,cn,λb hb=>kk _ _ (aA.new hb) #[b,n,hn,rfl,aD.of ?_]];rw[bW (λz=>by rw[z,eacc] at hb; cases hb)];exact aG
   rintro B vs sn e_cp lG tG;let#[la_,rfl,hla,hca]:=wj (ns:=wa.drop m) (by rw[lG,JE]) tG;have hca:∀x∈la_,aD K B x.1 [.str "copy",.str x.2,.int 0]:=λx hx=>cZ<*(hca x hx);have F:=F.mono sn; have hcl:=F.1.seq hcl; have hwl:=F.1.seq hwl; have SH:=SH.trans F.1; have F:=F.re; have F:=F.add e_cp
   have ll:la_.length<=20:=by have:=JW List.length hla; rw[JE,KI] at this; lia
   show#[aZ,λq1 k=>?_];generalize eh:upd B q1 _=B2; have F:=F.nh k eh
   show#[5,cl,35,(F.1.seq hcl),hc4,5,c4,n1,wa,rfl,aE.of (F.g 5 rfl),∅,λxa B_ sn hxa=>?_];have F:=F.mono sn; have hcl:=F.1.seq hcl; have hwl:=F.1.seq hwl; have SH:=SH.trans F.1; have hca:=λx hx=>F.1.tup (hca x hx); have F:=F.re
   show#[aZ,λq2 k=>?_];generalize eh:upd B_ q2 _=B3; have F:=F.nh k eh
   show#[aZ,λq3 k=>?_];generalize eh:upd B3 q3 _=B4; have F:=F.nh k eh
   show#[cp,q3,19,(F.g 3 rfl),F.2.1,bt (by rw[JE]; show la_.length+2<_; lia),λrl k=>?_];generalize eh:upd B4 rl _=B5; have F:=F.nh k eh
   have hcl:=F.1.seq hcl; have hwl:=F.1.seq hwl; have SH:=SH.trans F.1; have hca:=λx hx=>F.1.tup (hca x hx); have F:=(Al.nil (H:=B5)) |>.add (F.g 8 rfl) |>.add (F.g 7 rfl) |>.add (F.g 6 rfl) |>.add (F.g 3 rfl) |>.add (F.g 2 rfl) |>.add F.2.1
   show#[λσ' G=>∃(pl:Mc) (Ga:F2.Fd) (xa:V),σ'=[⇑↥cl,⇑↥wl,⇑(.int (own:Int)),⇑(.int (m:Int)),⇑↥n1,⇑↥n2,⇑↥n3,⇑↥rl,⇑↥pl,none,none,none]/\aA B5 (ers pl G)/\B5 pl=none/\G pl=⇑(.lst [V.ref Ga.fa])/\Ok5 K (ers pl G) wa w0 Ga/\Ga.ps=wa.take m/\BackAt K (ers pl G) Ga (Ga.rs.length - 1) xa,?_,?_]
   . show#[5,wl,35,hwl,at0,5,cl,35,hcl,hc1,19,#[#[],#[]],19,(show(0:Int)<2 by decide),213,n1,5,aE.of (F.g 5 rfl),λq4 k=>?_];rw[ke,<- List.map_take];generalize eh:upd B5 q4 _=B6; have F:=F.nh k eh
     show#[q4,5,.inl #[aE.of F.2.1,λtp k=>?_]];generalize eh:upd B6 tp _=B7; have F:=F.nh k eh
     show#[5,rl,5,.inl #[aE.of (F.g 2 rfl),λtr k=>?_]];generalize eh:upd B7 tr _=B8; have F:=F.nh k eh
     show#[fF,λfa k=>?_];generalize eh:upd B8 fa _=B9; have F:=F.nh k eh
     let#[Ga,ea,eps,oka,bka]:=fa5 (K:=K) (aD.of F.2.1) (aD.of F.2.2.1) (aD.of (F.g 2 rfl)) hla (λx hx=>F.1.tup (hca x hx)) (aD.of (F.g 6 rfl)) (aD.of (F.g 5 rfl)) hxa (hnm w0 0x6) nda nma ∅;show#[cB,λpl k_pl=>?_];have se:=gU (aA.refl _) k_pl;show#[pl,Ga,xa,rfl,?_,F.1.free k_pl,by rw[ea]; exact aG,?_,eps,?_]
     . rw[fH]; exact F.1.trans se
     . rw[fH]; exact oka*>se
     . rw[fH]; exact bka*>se
   rintro σ' G ⟨pl,Ga,xa,rfl,SC,npl,e_pl,oka,epa,bka⟩;have F:=F.mono SC; have hcl:=F.1.seq hcl; have hwl:=F.1.seq hwl; have SH:=SH.trans F.1; skip
   obtain⟨-,-,-,-,e_n3,e_n2,e_n1,-⟩:=F;have hB:Bs5 K (ers pl G) cl wl n1 n2 n3 cs w0 w1 w2 o0 o1 wa wb m Ga xa:=#[hcl,hwl,aE.of e_n1,aE.of e_n2,aE.of e_n3,oka,epa,bka]
   have hC:=hB; have SC:aA (ers pl G) G:=cZ; have nC:ers pl G pl=none:=by unfold ers; rw[JR rfl]
   have hB:=hB*>SC; have F:=(Al.nil (H:=G)).add e_pl; clear hcl hwl e_n1 e_n2 e_n3 oka epa bka
   let#[b0,b1,b2,hb0,hb1,hb2,mb0,mb1,mb2]:=FC (ws:=wb) ∅;show#[5,n2,35,hB.n2,hb1,5,wl,35,hB.wl,at0,5,n2,35,hB.n2,hb0,5,n2,35,hB.n2,hb1,5,n2,35,hB.n2,hb2,le6,λt6 k=>?_];generalize eh:upd G t6 _=B6; have F:=F.nh k eh
   show#[21,j9 (aD.of F.2.1) λpp Bp sn hpp=>?_];have F:=F.mono sn; have hB:=hB*>F.1; have SC:=SC.trans F.1; have F:=F.re
   have apv:∀v∈bu [V.int 0,.str b0,.int 1,.str b1,.int 2,.str b2] none ⇑(m:Int),cV wb v:=λv hv=>by
     have:=St.cut_mem v hv;simp only[JT,J',or_false] at this;rcases this with rfl|rfl|rfl|rfl|rfl|rfl
     . exact .inl #[(0),rfl,#[],#[]]
     . exact .inr #[b0,mb0,rfl]
     . exact .inl #[(1),rfl,#[],#[]]
     . exact .inr #[b1,mb1,rfl]
     . exact .inl #[(2),rfl,#[],#[]]
     . exact .inr #[b2,mb2,rfl]
   have apl:(bu [V.int 0,.str b0,.int 1,.str b1,.int 2,.str b2] none ⇑(m:Int)).length<=10:=Jj St.cut_len (by show 6<=10; decide);generalize bu [V.int 0,.str b0,.int 1,.str b1,.int 2,.str b2] none ⇑(m:Int)=pas at hpp apv apl;show#[fF,λpd k=>?_];generalize eh:upd Bp pd _=B7; have F:=F.nh k eh
   show#[cB,λlp k=>?_];generalize eh:upd B7 lp _=B8; have F:=F.nh k eh
   obtain⟨n,hn⟩:∃n:Nat,n=(c4%3).toNat:=#[5]
   have n3_:n<3:=by have:=ce c4 3 #[]; lia
   show#[5,cl,35,(hB*>F.1).cl,hc4,19,(show(0:Int)<3 by decide),lp,19,F.2.1,∅,∅,bt (by show 1 * (c4%3).toNat<_; lia),λpa k=>?_];rw[nL,<- hn]; clear hn;generalize eh:upd B8 pa _=B9; have F:=F.nh k eh
   show#[21,n2,5,.inl (hB*>F.1).n2,aZ,λlz k=>?_];generalize eh:upd B9 lz _=B10; have F:=F.nh k eh
   obtain⟨ng,hng,eng⟩:∃ng:Nat,ay [V.int (m:Int),V.int (((wb.map V.str).length:Nat):Int)] (own:Int)=⇑(.int (ng:Int))/\(own=0/\ng=m\/own=1/\ng=wb.length):=by
     obtain rfl|rfl:own=0\/own=1:=by lia
     . show#[m,rfl,.inl #[7]]
     . show#[5,.inr #[rfl,by rw[JE]]]
   show#[5,lz,35,aE.of F.2.1,hng,5,∅,∅,λgl hgl=>rS (lo:=0) (n:=ng) (λi G v=>cV wb v) (λi v G G' s h=>h) ∅ hgl ?_ ?_]
   . rintro i H2 R_ hi s2 ⟨acc,e2⟩ k2;let#[ci,hci]:=cx (cs:=cs) (j:=5+i%3) ∅;show#[339,(show(0:Int)<3 by decide),19,cl,35,s2.seq (hB*>F.1).cl,(by rw[L7,show(5:Int)+(i:Int)%3=((5+i%3:Nat):Int) by lia]; exact hci),1331,#[∅,∅],10,n2,wb,rfl,s2.seq (hB*>F.1).n2,∅,λa G' s' ha=>k2 _ _ s' ha]
   rintro Bg vg sn e_gl lG tG;have F:=F.mono sn; have hB:=hB*>F.1; have SC:=SC.trans F.1; have hpp:=F.1.tup hpp; have F:=F.re; have F:=F.add e_gl
   have avg:∀v∈vg,cV wb v:=λv hv=>by let#[i,hi]:=Jp hv; exact tG i v hi
   show#[gl,5,.inl #[aE.of F.2.1,λgv k=>?_]];generalize eh:upd Bg gv _=B11; have F:=F.nh k eh
   show#[aZ,λf1 k=>?_];generalize eh:upd B11 f1 _=B12; have F:=F.nh k eh
   have hB:=hB*>F.1; have SC:=SC.trans F.1; have hpp:=F.1.tup hpp; have F:=(Al.nil (H:=B12)) |>.add (F.g 8 rfl) |>.add (F.g 6 rfl) |>.add (F.g 4 rfl) |>.add F.2.2.1 |>.add F.2.1
   show#[λσ' G'=>∃fr,σ'=[⇑↥cl,⇑↥wl,⇑(.int (own:Int)),⇑(.int (m:Int)),⇑↥n1,⇑↥n2,⇑↥n3,⇑↥rl,⇑↥pl,⇑↥pa,⇑↥gv,⇑↥fr]/\aA B12 G'/\(fr=pd\/∃i,aD K G' fr [.str "out",.int i]),?_,?_]
   . show#[5,cl,35,hB.cl,hc4,19,#[#[],#[]],19,(show(0:Int)<2 by decide),13,?_];by_cases h4:c4 / 3%2=1
     . refine aL (JG (JW V.int h4)) ?_;show#[5,aZ,λz1 k=>?_];generalize eh:upd B12 z1 _=B13; have F:=F.nh k eh
       show#[cB,λz2 k=>?_];generalize eh:upd B13 z2 _=B14; have F:=F.nh k eh
       show#[pa,z2,19,(F.g 4 rfl),F.2.1,bt (by rw[Jr]; show n+1<_; lia),λz3 k=>?_];generalize eh:upd B14 z3 _=B15; have F:=F.nh k eh
       obtain⟨fr,hfr,hfo⟩:∃fr,ay (List.replicate n (V.ref pd)++[V.ref z1]) 0=⇑↥fr/\(fr=pd\/fr=z1):=by
         cases n with
         | zero=>show#[z1,rfl,.inr rfl]
         | succ n=>show#[pd,at0,.inl rfl]
       show#[z3,35,aE.of F.2.1,hfr,fr,rfl,F.1,hfo.imp_right λe=>#[(2),by rw[e]; exact aD.of (F.g 2 rfl)]]
     . exact aX (λz=>h4 (V.int.inj (aq z))) #[f1,rfl,aA.refl _,.inr #[(1),aD.of F.2.1]]
   rintro σ' Bf ⟨fr,rfl,sn,hfr⟩;have F:=F.mono sn; have hB:=hB*>F.1; have SC:=SC.trans F.1; have hpp:=F.1.tup hpp; have F:=F.re
   have SF:=aA.refl Bf;let#[y,y1,y2,y3]:=xu (ws:=wb) ∅ c8;obtain⟨g,hg,eg⟩:∃g,ay [V.str w0,V.str w1,V.str w2] (own:Int)=⇑(.str g)/\(own=0/\g=w0\/own=1/\g=w1):=by
     obtain rfl|rfl:own=0\/own=1:=by lia
     . show#[w0,rfl,.inl #[7]]
     . show#[w1,rfl,.inr #[7]]
   have ng_:K12.Nm g:=by rcases eg with⟨_,e⟩|⟨_,e⟩ <;> (rw[e]; exact hnm _ 0x6)
   show#[85,cl,35,hB.cl,hc8,5,n2,5,.inl hB.n2,19,y1,n2,35,hB.n2,y2,21,wl,35,hB.wl,hg,5,fF,λrc k=>?_];generalize eh:upd Bf rc _=B13; have F:=F.nh k eh
   show#[5,aZ,λrz k=>?_];generalize eh:upd B13 rz _=B14; have F:=F.nh k eh
   show#[pa,rz,19,(F.g 4 rfl),F.2.1,bt (by rw[Jr]; show n+2<_; lia),λrl k=>?_];have nrl:=(SC.trans F.1).free k; have prl:=(dW (F.g 6 rfl) k).symm
   generalize eh:upd B14 rl _=B15; have F:=F.nh k eh
   show#[5,.inl #[6,aE.of F.2.1],5,cl,35,(hB*>F.1).cl,hc9,5,c9,n2,wb,rfl,(hB*>F.1).n2,∅,λxb Bb sn hxb=>?_];have F:=F.mono sn; have hB:=hB*>F.1; have SC:=SC.trans F.1; have hpp:=F.1.tup hpp; have SF:=SF.trans F.1; have F:=F.re
   show#[aZ,λrb k=>?_];generalize eh:upd Bb rb _=B16; have F:=F.nh k eh
   have hrl:=F.2.2.1; have hpl:=(F.g 8 rfl)
   have hB:=hB*>F.1; have SC:=SC.trans F.1; have hpp:=F.1.tup hpp; have SF:=SF.trans F.1; have F:=(Al.nil (H:=B16)) |>.add (F.g 7 rfl) |>.add (F.g 5 rfl) |>.add (F.g 3 rfl) |>.add F.2.1
   show#[rl,19,hrl,Rk2.lt_line' (by rw[JF,Jr]; show n+2<_; lia),?_];have hfr:fr=pd\/∃i,aD K (upd B16 rl (.lst (List.replicate n (V.ref pd)++[V.ref rc,V.ref fr]++[V.ref rb]))) fr [.str "out",.int i]:=hfr.imp_right λz245_=>by let#[i,h]:=z245_; show#[i,K12.sqT_lst (SF.tup h) hrl]
   have hpp:=K12.sqT_lst (l':=List.replicate n (V.ref pd)++[V.ref rc,V.ref fr]++[V.ref rb]) hpp hrl;have F:Al _ (upd B16 rl (.lst (List.replicate n (V.ref pd)++[V.ref rc,V.ref fr]++[V.ref rb]))) _:=#[aA.refl _,AlP.kt hrl rfl F.2]
   have SC:=SC.upd (o:=.lst (List.replicate n (V.ref pd)++[V.ref rc,V.ref fr]++[V.ref rb])) nrl; have hB:=hC*>SC
   have hpl:=(am (o:=.lst (List.replicate n (V.ref pd)++[V.ref rc,V.ref fr]++[V.ref rb])) prl)\hpl;have hrl:upd B16 rl (.lst (List.replicate n (V.ref pd)++[V.ref rc,V.ref fr]++[V.ref rb])) rl=_:=aG;generalize upd B16 rl (.lst (List.replicate n (V.ref pd)++[V.ref rc,V.ref fr]++[V.ref rb]))=Z at hfr hpp F SC hB hpl hrl ⊢;show#[λσ' G'=>∃(Gb:F2.Fd),σ'=[⇑↥cl,⇑↥wl,⇑(.int (own:Int)),⇑(.int (m:Int)),⇑↥n1,⇑↥n2,⇑↥n3,⇑↥rl,⇑↥pl,⇑↥pa,⇑↥gv,⇑↥fr]/\aA (ers pl G) (ers pl G')/\G' pl=⇑(.lst [V.ref Ga.fa,V.ref Gb.fa])/\Bt5 K (ers pl G') wb w1 g n y gv vg xb Gb,?_,?_]
   . show#[5,.inl #[6,aE.of hpl],5,wl,35,hB.wl,13,cl,35,hB.cl,hc1,19,#[#[],#[]],19,(show(0:Int)<2 by decide),13,n2,5,.inl #[hB.n2,λtp k=>?_]];generalize eh:upd Z tp _=B17; have F:=F.nh k eh
     show#[5,rl,5,.inl #[aE.of (F.1 _ _ hrl),λtr k=>?_]];generalize eh:upd B17 tr _=B18; have F:=F.nh k eh
     show#[fF,λfb k=>?_];generalize eh:upd B18 fb _=B19; have F:=F.nh k eh
     have hp1:=(F.1 _ _ hpl)
     have hp2:=iZ hp1 (F.1.tup hpp);have T:∀{a:Mc} {xs:List V},B19 a=⇑(.tup xs)->aD K (ers pl B19) a xs:=λh=>aD.of (xq hp1 h);have hpr:gB K (ers pl B19) wb ((RG.call b1 w0 pp pas).rr pd):=ql nmb (T (F.g 6 rfl)) hp2 mb1 (hnm w0 0x6) (λv hv=>(apv v hv).i) apl;obtain⟨nx,hx1,hx2,hx3⟩:∃nx:K41.RR,nx.w.r=fr/\gB K (ers pl B19) wb nx/\iI nx.w.k:=by
       rcases hfr with rfl|⟨i,h⟩
       . show#[5,hpr,.inr (.inl rfl)]
       . show#[(RG.out (.int i)).rr fr,rfl,je nmb (.out (.int i)) (.inl rfl) (iZ hp1 (F.1.tup h)) (.inl #[i,rfl]),.inr (.inr rfl)]
     let#[Gb,ea,eps,okb,bkb,lnb,cab]:=fb5 (K:=K) (pr:=(RG.call b1 w0 pp pas).rr pd) (nx:=nx) (n:=n) (T F.2.1) (by rw[hx1]; exact T F.2.2.1) (T (F.g 2 rfl)) hpr (.inr (.inl rfl)) hx2 hx3 (T (F.g 4 rfl)) (T (F.g 5 rfl)) (by rw[lG]; lia) y3 ng_ avg (T (F.g 3 rfl)) hxb (hnm w1 0x6) ndb nmb ∅ n3_;show#[pl,19,(F.1 _ _ hpl),Rk2.lt_line' (by show 1<_; decide),Gb,rfl,?_,by rw[ea]; exact aG,?_]
     . rw[fH]; exact gU (SC.trans F.1) nC
     . rw[fH]; show#[okb,eps,bkb,lnb,cab]
   rintro σ' D ⟨Gb,rfl,SD,e_pl,hb_⟩;clear F hpl hrl hpp hfr hB SC;have nD:ers pl D pl=none:=by unfold ers; rw[JR rfl]
   have hD:=hC*>SD;have SC:aA (ers pl D) D:=cZ;have hB:=hD*>SC; have F:=(Al.nil (H:=D)).add e_pl
   show#[5,n3,35,hB.n3,at0,cn,λcp k=>?_];generalize eh:upd D cp _=B17; have F:=F.nh k eh
   show#[cB,λlp k=>?_];generalize eh:upd B17 lp _=B18; have F:=F.nh k eh
   obtain⟨mc,hmc⟩:∃n:Nat,n=(c4 / 6%2).toNat:=#[5]
   have mc2:mc<2:=by have:=ce (c4 / 6) 2 #[]; lia
   show#[5,cl,35,(hB*>F.1).cl,hc4,19,#[#[],#[]],19,(show(0:Int)<2 by decide),lp,19,F.2.1,∅,∅,bt (by show 1 * (c4 / 6%2).toNat<_; lia),λpa k=>?_];rw[nL,<- hmc]; clear hmc;generalize eh:upd B18 pa _=B19; have F:=F.nh k eh
   obtain⟨yc,hyc,myc⟩:∃yc,ay ([o0,o1].map V.str) (c4 / 12%2)=⇑(.str yc)/\yc∈[o0,o1]:=by
     obtain e|e:c4 / 12%2=0\/c4 / 12%2=1:=by have:=ce (c4 / 12) 2 #[]; lia
     . rw[e]; show#[o0,rfl,by simp]
     . rw[e]; show#[o1,rfl,by simp]
   show#[85,cl,35,(hB*>F.1).cl,hc4,19,#[#[],#[]],19,(show(0:Int)<2 by decide),n3,35,(hB*>F.1).n3,hyc,5,wl,35,(hB*>F.1).wl,13,n3,35,(hB*>F.1).n3,at0,5,n3,35,(hB*>F.1).n3,rfl,fF,λt4 k=>?_];generalize eh:upd B19 t4 _=B20; have F:=F.nh k eh
   show#[5,n2,5,.inl (hB*>F.1).n2,5,j9 (aD.of F.2.1) λpp Bp sn hpc=>?_];have F:=F.mono sn; have hB:=hB*>F.1; have SC:=SC.trans F.1; have F:=F.re
   have acv:∀v∈bu [V.str o0,.int 1,.str o1,.int 2] none ⇑(((wb.map V.str).length:Nat):Int),cV [o0,o1] v:=λv hv=>by
     have:=St.cut_mem v hv;simp only[JT,J',or_false] at this;rcases this with rfl|rfl|rfl|rfl
     . exact .inr #[o0,by simp,rfl]
     . exact .inl #[(1),rfl,#[],#[]]
     . exact .inr #[o1,by simp,rfl]
     . exact .inl #[(2),rfl,#[],#[]]
   have acl:(bu [V.str o0,.int 1,.str o1,.int 2] none ⇑(((wb.map V.str).length:Nat):Int)).length<=10:=Jj St.cut_len (by show 4<=10; decide);generalize bu [V.str o0,.int 1,.str o1,.int 2] none ⇑(((wb.map V.str).length:Nat):Int)=cas at hpc acv acl;show#[fF,λrc k=>?_];generalize eh:upd Bp rc _=B21; have F:=F.nh k eh
   show#[cB,λrz k=>?_];generalize eh:upd B21 rz _=B22; have F:=F.nh k eh
   show#[pa,rz,19,(F.g 3 rfl),F.2.1,bt (by rw[Jr]; show mc+1<_; lia),λrl k=>?_];generalize eh:upd B22 rl _=B23; have F:=F.nh k eh
   show#[5,.inl #[6,aE.of (F.g 7 rfl)],5,wl,35,(hB*>F.1).wl,13,n3,5,.inl #[(hB*>F.1).n3,λtp k=>?_]];generalize eh:upd B23 tp _=B24; have F:=F.nh k eh
   show#[5,aZ,λro k=>?_];generalize eh:upd B24 ro _=B25; have F:=F.nh k eh
   show#[aZ,λrb k=>?_];generalize eh:upd B25 rb _=B26; have F:=F.nh k eh
   show#[aZ,λr2 k=>?_];generalize eh:upd B26 r2 _=B27; have F:=F.nh k eh
   show#[rl,r2,19,(F.g 4 rfl),F.2.1,bt (by rw[JF,Jr]; show mc+1+2<_; lia),λr3 k=>?_];generalize eh:upd B27 r3 _=B28; have F:=F.nh k eh
   show#[r3,5,.inl #[aE.of F.2.1,λtr k=>?_]];generalize eh:upd B28 tr _=B29; have F:=F.nh k eh
   show#[fF,λfc k=>?_];generalize eh:upd B29 fc _=B30; have F:=F.nh k eh
   have hp1:=(F.g 14 rfl)
   have T:∀{a:Mc} {xs:List V},B30 a=⇑(.tup xs)->aD K (ers pl B30) a xs:=λh=>aD.of (xq hp1 h);let#[Gc,ec,okc,cac,ixc]:=fc5 (K:=K) (n:=mc) (T F.2.1) (T F.2.2.1) (T (F.g 6 rfl)) (T (F.g 13 rfl)) (T (F.g 9 rfl)) (iZ hp1 (F.1.tup hpc)) acl myc (hnm w1 0x6) acv (T (F.g 5 rfl)) (T (F.g 4 rfl)) (hnm w2 0x6) ndc nmc mc2;show#[pl,19,hp1,Rk2.lt_line' (by show 2<_; decide),?_];have SE:=gU (SC.trans F.1) nD;have SZ:aA (ers pl B30) (upd B30 pl (.lst [V.ref Ga.fa,V.ref Gb.fa,V.ref fc])):=λb o h=>by
     have n:b≠pl:=λz=>by rw[z] at h; unfold ers at h; rw[JR rfl] at h; cases h
     rw[am n]; rw[bW n] at h; exact h
   have hpl:upd B30 pl (.lst [V.ref Ga.fa,V.ref Gb.fa,V.ref fc]) pl=_:=aG;have okc:=okc*>SZ; have cac:=cac*>SZ; have hb_:=(hb_*>SE).mono SZ; have hD:=(hD*>SE).mono SZ; have SH:=(((SH.trans SD)\SE).trans SZ)
   rw[show [V.ref Ga.fa,V.ref Gb.fa]++[V.ref fc]=[V.ref Ga.fa,V.ref Gb.fa,V.ref fc] from rfl];generalize upd B30 pl (.lst [V.ref Ga.fa,V.ref Gb.fa,V.ref fc])=Z at hpl okc cac hb_ hD SH ⊢;show#[341,cn,λnl k1=>#[aZ,λp k2=>?_]];have s2:=(aA.new (o:=.lst [V.ref n1,V.ref n2,V.ref n3]) k1)\(aA.new (o:=.tup [V.ref pl,↥nl]) k2);have hD:=hD*>s2; have hb_:=hb_*>s2; have okc:=okc*>s2; have cac:=cac*>s2
   obtain⟨Go,xo,hGo⟩:∃(Go:F2.Fd) (xo:V),own=0/\Go=Ga/\xo=xa\/own=1/\Go=Gb/\xo=xb:=by
     obtain rfl|rfl:own=0\/own=1:=by lia
     . show#[4,.inl #[15]]
     . show#[4,.inr #[15]]
   refine q p pl nl n1 n2 n3 #[Ga,Gb,Gc,Go,own,n,mc,y,yc,gv,pp,vg,cas,xb,xo] _ (SH.trans s2) (aD.of aG) rfl (by rw[hD.ok.e,hb_.ok.e,okc.e]) ?_ #[aE.of (aA.new k2 _ _ aG),by rw[hD.ok.ns]; exact hD.n1,by rw[hb_.ok.ns]; exact hD.n2,by rw[okc.ns]; exact hD.n3];have ndn:[Ga.name,Gb.name,Gc.name].Nodup:=by rw[hD.ok.e,hb_.ok.e,okc.e]; exact nd
   have okG:∀{Hx ws nk G},Ok5 K Hx ws nk G->K12.Nm G.name/\F2.FnAt K Hx G/\bH K Hx 6 ↥G.fa/\(F2.nms G).length<=20/\G.ps.length<=20:=λh=>#[h.nm,h.fn,h.hd,by rw[h.ns]; exact h.l,h.pl]
   show#[aE.of (by rw[ec]; exact s2 _ _ hpl),by rw[hD.ok.e,hb_.ok.e,okc.e]; exact hD.wl,ndn,λG hG=>?_,?_,?_,hb_.l,?_,hb_.bk,?_,?_,?_,ixc,λG hG=>?_]
   . simp only[JT,J',or_false] at hG;rcases hG with rfl|rfl|rfl
     . exact okG hD.ok
     . exact okG hb_.ok
     . exact okG okc
   . exact hGo.imp (λz=>#[z.1,z.2.1]) λz=>#[z.1,z.2.1]
   . rcases hGo with⟨z,rfl,rfl⟩|⟨z,rfl,rfl⟩
     . show#[?_,wa.drop m,?_]
       . show vg.length=Go.ps.length;rw[hD.ps,Jk,lG]; lia
       . show F2.nms Go=Go.ps++_;rw[hD.ok.ns,hD.ps,Lc]
     . show#[?_,[],?_]
       . show vg.length=Go.ps.length;rw[hb_.ps,lG]; lia
       . show F2.nms Go=Go.ps++_;rw[hb_.ok.ns,hb_.ps,K5]
   . show CallAt K _ Gb n y Go.name gv vg;rw[show Go.name=g by rcases hGo with⟨z,e,_⟩|⟨z,e,_⟩ <;> rcases eg with⟨z1,e1⟩|⟨z1,e1⟩ <;> first|lia|(rw[e,e1]; first|exact hD.ok.e|exact hb_.ok.e)];exact hb_.c
   . rcases hGo with⟨z,rfl,rfl⟩|⟨z,rfl,rfl⟩
     . exact hD.ok.rs
     . exact hb_.ok.rs
   . rcases hGo with⟨z,rfl,rfl⟩|⟨z,rfl,rfl⟩
     . exact hD.bk
     . show BackAt K _ Go (Go.rs.length - 1) _;rw[hb_.l]; exact hb_.bk
   . show CallAt K _ Gc mc yc Gb.name pp cas;rw[hb_.ok.e]; exact cac
   . simp only[JT,J',or_false] at hG;rcases hG with rfl|rfl|rfl
     . exact hD.ok.pr
     . exact hb_.ok.pr
     . exact okc.pr
def BH:FnScope ["_law_atom_here","_law_names_here","_law_view_here"] ["_law_atom_here","_law_names_here","_law_view_here"] (az ox):=by walk_at "s"
def rf (T:Txt K mg t):FnOk P w K mg base CX0 1 t.yk t.zp ["_law_atom_here","_law_names_here","_law_view_here"] (Bq K):=by
 refine T.l_of.F.ok BH (λvs H Q E h=>?_) (λcdv A outer s H vs Q E hr h=>?_)
 . let#[_,_,_,_,_,_,_,rfl,_]:=h;rfl
 . let#[a,nl,vl,ws,us,vw,o,rfl,ha,hn,hv,hu,hl,h1,ho,q]:=h;show#[_,(aH (ai (jE (bz oT 0x0 T.b_isinstance nV (a8 0>=>(nr (v:=V.ty "str") rfl T.b_str p7 rfl)>=>aC))) (~~~(iY K (a8 2) (cq Jc KQ KR jH (a8 1) (a8 0>=>aC)))) ag) (~~~(aj (aU>=>a8 0>=>aC)))),?_];rcases ha with⟨z,rfl,z0,z1⟩|⟨n,hm,rfl⟩
   . cases ho;show#[10,"str",_,false,rfl,.int _,13,lR #[5,aZ,λp hp=>q _ _ (aA.new hp) #[p,rfl,aG]]]
   . have hi:ws.idxOf n<vw.length:=by rw[hl]; exact Ks hm
     let#[u,o',a1,a2,a3]:=Rk2.Ps.at hu (n:=ws.idxOf n) hi;have:o=o':=by have e:=rX (vw:=vw) rfl hm a2;exact Option.some.inj (ho.symm\e)
     subst this;have kx:=jt hm h1;show#[10,"str",_,true,rfl,.str _,13,rV #[21,.inl #[6,hn],5,nl,4,ws.idxOf n,7,hn,kx.1,kx.2.1,kx.2.2.1,kx.2.2.2.1,kx.2.2.2.2,vl,35,hv,bf a1,q u H (aA.refl _) a3]]
def E7:FnScope ["_law_program_here","_law_frame"] ["_law_program_here","_law_frame"] (az qp):=by walk_at "s"
def oy (T:Txt K mg t):FnOk P w K mg base CX0 1 t.yn t.zt ["_law_program_here","_law_frame"] (Eo K):=by
 refine T.kC.F.ok E7 (λvs H Q E h=>?_) (λcdv A outer s H vs Q E hr h=>?_)
 . let#[_,_,_,_,_,_,rfl,_]:=h;rfl
 . let#[pl,fa,Fs,F,r,c,rfl,hP,hE,nd,hm,hfa,hc,h10,q]:=h;show#[_,(aH (@af _ _ _ _ (iX K (iL K (dg (N':=["_law_function","_law_frame"]) (js:=[none,some 1]) (by kernel_rfl) rfl (di (a8 0)) dD (λ_ _ _ _=>(bD (i:=0) (show(["_law_function","_law_frame"]:List Str).Nodup by decide +kernel) rfl 0x8 (.inr rfl))) (λ_ _ _ _=>(rN (aS ak (iT K (a8 0)) (iT K (a8 1)) (aN _)))) (λ_ _ _ _=>(iT K (a8 0))))) (iT K (a8 1)))) ag),?_];show#[5,pl,rfl,#[_,hP],λp hp=>(let Jv1:Nat->List V->Hp->Prop:=λi acc H2=>acc=((Fs.take i).filter (λG=>decide (G.name=F.name))).map (λG=>V.ref G.ra)/\H2=upd H p (.lst acc); jT (xs:=Fs.map λF=>V.ref F.fa) (by rw[JE]; lia) Jv1 #[7] ?_ ?_ ?_)]
   . rintro i acc H2 hi ⟨rfl,rfl⟩;show#[aG,?_,(aA.new hp).seq hP];rw[JE];have:=List.length_filter_le (λG:F2.Fd=>decide (G.name=F.name)) (Fs.take i);rw[Jk] at this
     lia
   . rintro i x acc H2 hx ⟨rfl,rfl⟩;rw[JS,Jg] at hx;let#[G,hG,rfl]:=hx;have fG:=(hE G (JM hG)).fn;have e2:Fs.take (i+1)=Fs.take i++[G]:=by rw[KE,hG]; rfl
     show#[5,G.fa,35,(aA.new hp)<*fG,at0,5,fa,35,(aA.new hp)<*hfa,at0,rfl,?_];by_cases e:G.name=F.name
     . show#[5,?_];rw[JG (JW V.str e)];show#[5,G.fa,35,(aA.new hp)<*fG,rfl,aG,?_,oE];rw[e2,List.filter_append,MP (by rw[K1]; exact e),JL];rfl
     . show#[5,?_];rw[JP (λz=>e (V.str.inj z))];show#[?_,?_]
       . rw[e2,List.filter_append,LM (by rw[K1]; exact e),List.filter_nil,K5]
       . rfl
   . rintro acc H2 ⟨rfl,rfl⟩;rw[JE,Jw,vX nd hm];have sn:=aA.new (o:=.lst ([F].map λG=>V.ref G.ra)) hp;show#[p,35,aE.of aG,at0,5,fa,35,sn<*hfa,rfl,F.ra,35,sn<*(hE F hm).rw_,bf (by rw[JS,hc]; rfl),q _ sn]
def lJ:FnScope ["_law_program_here","_law_words","_law_kind","_law_deep","_law_own","_law_chain_here","_law_last"] ["_law_program_here","_law_words","_law_kind","_law_deep","_law_own"] (az lC):=by walk_at "s"
def Ci (T:Txt K mg t):FnOk P w K mg base CX0 1 t.yd t.zh ["_law_program_here","_law_words","_law_kind","_law_deep","_law_own"] (C1 K):=by
 refine T.AG.F.ok lJ (λvs H Q E h=>?_) (λcdv A outer s H vs Q E hr h=>?_)
 . let#[_,_,_,_,_,rfl,_]:=h;rfl
 . skip
   refine lx ?_;intro XX;refine(let W3:TS:=_; have hW3:aY XX ((aV lC).drop 3) W3:=(aH (ai (aS ak (a8 2) aF (aN _)) (~~~(dh<$>a8 5<*>(bQ ((aj ((iL K (a8 1))>=>a8 6>=>aC))>=>aC)))) ag) (aH (pS 5 lJ.nd (dh<$>a8 5<*>(bQ ((aj ((iL K (a8 1))>=>(bN i4<$>a8 6<*>aF)>=>aC))>=>aC)))) (aH (ai (aS ak (a8 2) aF (aN _)) (@aK _ _ _ (@du _ _ _ _ (cq Jc Jt Ju gF (a8 5) ((aj ((iY K (a8 1) (a8 4))>=>(bN i4<$>(bz 0x1 0x0 T.b_len cL ((iT K (iY K (a8 0) (a8 4)))>=>aC))<*>aF)>=>aC))>=>aC)) 0x0)) ag) (~~~(a8 5))))); ?_);refine(let W2:TS:=_; have hW2:aY XX ((aV lC).drop 2) W2:=(d8 (ai (jE (a8 3)) (@aK _ _ _ (pS 5 lJ.nd (bQ ((aj ((iL K (a8 1))>=>(cq Jc KQ KR jH (dg (N':=["_law_row_here"]) (js:=[none]) (by kernel_rfl) rfl (kJ (iT K (iL K (a8 0)))) dD (λ_ _ _ _=>(bD (i:=0) (show(["_law_row_here"]:List Str).Nodup by decide +kernel) rfl 0x8 (.inr rfl))) (λ_ _ _ _=>dC) (λ_ _ _ _=>(iT K (a8 0)))) (aU>=>aC))>=>aC))>=>aC)))) ag) hW3); ?_);let#[pl,wl,F_,k,dp,rfl,hP,q]:=h;show#[_,(aH (pS 5 lJ.nd (bQ aC)) (aH (pS 6 lJ.nd (bN i4<$>(bz 0x1 0x0 T.b_len cL ((iT K (iL K (a8 0)))>=>aC))<*>aF)) hW2)),?_];have fb:=(hP.ok F_.b 0x6).2.1;have fc:=(hP.ok F_.c 0x6).2.1;have i1:ay [V.ref F_.a.fa,V.ref F_.b.fa,V.ref F_.c.fa] 1=⇑↥F_.b.fa:=bf (j:=1) rfl;have i2:ay [V.ref F_.a.fa,V.ref F_.b.fa,V.ref F_.c.fa] 2=⇑↥F_.c.fa:=bf (j:=2) rfl;have w1:ay [V.str F_.a.name,V.str F_.b.name,V.str F_.c.name] 1=⇑(.str F_.b.name):=bf (j:=1) rfl;have w2:ay [V.str F_.a.name,V.str F_.b.name,V.str F_.c.name] 2=⇑(.str F_.c.name):=bf (j:=2) rfl;have lbl:(F_.b.rs.map λw=>V.ref w.r).length=F_.rb+3:=by rw[JE,hP.lb]
   show#[fA,λl0 h0=>?_];have s0:=aA.new (o:=.lst []) h0;have e0:upd H l0 (.lst []) l0=_:=aG;generalize upd H l0 (.lst [])=H0 at s0 e0 ⊢;show#[5,pl,35,s0.seq hP.pl,i1,F_.b.fa,35,s0<*fb.fn,rfl,F_.b.ra,5,.inr (s0<*fb.rw_),19,?_];rw[show(((F_.b.rs.map λw=>V.ref w.r).length:Nat):Int) - 1=((F_.rb+2:Nat):Int) by rw[lbl]; lia];show#[λσ' G=>∃(l:Mc) (us:List V),σ'=[⇑↥pl,⇑↥wl,⇑(.int k),⇑(.bl dp),⇑(.int (F_.own:Int)),⇑↥l,⇑(.int ((F_.rb+2:Nat):Int))]/\aA H G/\H l=none/\G l=⇑(.lst us)/\Rk2.Ps (cy K G) us ((dS F_ dp).map bY),?_,?_]
   . cases dp with
     | false=>show#[21,jN #[l0,[],rfl,s0,h0,e0,trivial]]
     | true =>
       show#[21,aL rfl #[5,wl,35,s0.seq hP.wl,w2,5,pl,35,s0.seq hP.pl,i2,F_.c.fa,35,s0<*fc.fn,rfl,F_.c.ra,rfl,#[_,s0<*fc.rw_],λpL hpL=>pq (xs:=F_.c.rs.map λw:Rw=>V.ref w.r) (λi G v=>∃c:Rw,F_.c.rs[i]?=⇑c/\v=.str c.k) (λi v G G' s h=>h) (by rw[JE]; have:=fc.len; lia) (s0<*fc.rw_) hpL ?_ ?_]]
       . rintro i x G R_ hx sG ⟨acc,eacc⟩ kk;rw[JS,Jg] at hx;let#[c,hc,rfl]:=hx;let#[rest,hr_,_]:=fc.rk c (JM hc);show#[5,c.r,35,(s0\sG)<*hr_,at0,kk _ _ (aA.refl _) #[c,hc,rfl]]
       . rintro G vs sG eG lG tG;have ev:vs=(F_.c.rs.map (·.k)).map V.str:=L6 λi=>by
           rw[K7,JS];cases hv:vs[i]? with
           | none =>
             have:=Jy.mp hv;rw[Jy.mpr (by rw[JE] at lG; lia)];rfl
           | some v =>
             let#[c,hc,rfl]:=tG i v hv;rw[hc];rfl
         subst ev;let#[c,hc,hck,hci]:=hP.cc.c;have hcm:("call":Str)∈F_.c.rs.map (·.k):=Jh.mpr #[c,JM hc,hck];have kx:=jt hcm (by rw[JE]; exact fc.len);show#[.inl #[6,aE.of eG],pL,4,(F_.c.rs.map (·.k)).idxOf ("call":Str),7,aE.of eG,kx.1,kx.2.1,kx.2.2.1,kx.2.2.2.1,kx.2.2.2.2,aZ,λp1 k1=>#[cB,λp2 k2=>?_]];have s2:=(s0\sG).trans ((aA.new (o:=.tup [V.str F_.c.name,.int (((F_.c.rs.map (·.k)).idxOf ("call":Str):Nat):Int)]) k1)\(aA.new (o:=.lst [V.ref p1]) k2));show#[p2,[↥p1],rfl,s2,(s0\(sG\(aA.new k1))).free k2,aG,#[p1,rfl,?_],trivial];show aD K _ p1 [.str F_.c.name,.int ((F_.rc:Nat):Int)];rw[<- hP.ix];exact aD.of (aA.new k2 _ _ aG)
   rintro σ' G ⟨l,us,rfl,sG,hl,el,hu⟩;have lu:=Rk2.Ps.len hu;have lb5:us.length<=1:=by rw[lu,JE]; unfold dS; split <;> simp
   show#[45,?_];by_cases k2:k=2
   . refine aL (JG (JW V.int k2)) #[21,wl,35,sG.seq hP.wl,w1,5,aZ,λp1 h1=>#[cB,λp2 h2=>?_]];have s2:=(aA.new (o:=.tup [V.str F_.b.name,.int ((F_.rb+2:Nat):Int)]) h1)\(aA.new (o:=.lst [V.ref p1]) h2);show#[l,p2,19,s2 _ _ el,aG,bt (by show us.length+1<_; lia),λp3 h3=>?_];have s3:=s2\(aA.new (o:=.lst (us++[V.ref p1])) h3);refine q p3 _ _ (sG\s3) ((sG\s2).free h3) aG ?_;rw[show(dX F_ dp k).map bY=(dS F_ dp).map bY++[(F_.b.name,F_.rb+2)] by unfold dX; rw[JR k2,JL]; rfl];exact Rk2.Ps.app (Rk2.Ps.imp (λ_ _ z=>z*>s3) hu) #[#[p1,rfl,aD.of (aA.new h3 _ _ (aA.new h2 _ _ aG))],trivial]
   refine aX (λz=>k2 (V.int.inj (aq z))) #[21,wl,35,sG.seq hP.wl,w1,83,aZ,λp1 h1=>#[cB,λp2 h2=>?_]];rw[show((F_.rb+2:Nat):Int) - 2=((F_.rb:Nat):Int) by lia] at h2 ⊢;have s2:=(aA.new (o:=.tup [V.str F_.b.name,.int ((F_.rb:Nat):Int)]) h1)\(aA.new (o:=.lst [V.ref p1]) h2);show#[l,p2,19,s2 _ _ el,aG,bt (by show us.length+1<_; lia),λp3 h3=>?_];have s3:=s2\(aA.new (o:=.lst (us++[V.ref p1])) h3);have hu3:Rk2.Ps (cy K (upd (upd (upd G p1 (.tup [V.str F_.b.name,.int ((F_.rb:Nat):Int)])) p2 (.lst [V.ref p1])) p3 (.lst (us++[V.ref p1])))) (us++[V.ref p1]) ((dS F_ dp).map bY++[(F_.b.name,F_.rb)]):=Rk2.Ps.app (Rk2.Ps.imp (λ_ _ z=>z*>s3) hu) #[#[p1,rfl,aD.of (aA.new h3 _ _ (aA.new h2 _ _ aG))],trivial];have e3:upd (upd (upd G p1 (.tup [V.str F_.b.name,.int ((F_.rb:Nat):Int)])) p2 (.lst [V.ref p1])) p3 (.lst (us++[V.ref p1])) p3=_:=aG;have n3:=(sG\s2).free h3;have s03:=sG\s3;generalize upd (upd (upd G p1 (.tup [V.str F_.b.name,.int ((F_.rb:Nat):Int)])) p2 (.lst [V.ref p1])) p3 (.lst (us++[V.ref p1]))=H3 at s03 hu3 e3 ⊢;show#[45,?_];by_cases k3:k=3
   . obtain⟨fo,ho1,ho2⟩:F2.FnAt K H F_.o/\ay [V.ref F_.a.fa,V.ref F_.b.fa,V.ref F_.c.fa] (F_.own:Int)=⇑↥F_.o.fa/\ay [V.str F_.a.name,V.str F_.b.name,V.str F_.c.name] (F_.own:Int)=⇑(.str F_.o.name):=by
       rcases hP.o with⟨h1,h2⟩|⟨h1,h2⟩
       . rw[h1,h2]; show#[(hP.ok F_.a 0x6).2.1,bf (j:=0) rfl,bf (j:=0) rfl]
       . rw[h1,h2]; show#[fb,i1,w1]
     have lol:(F_.o.rs.map λw=>V.ref w.r).length=F_.o.rs.length:=JE _;have lo:=hP.lo;refine aL (JG (JW V.int k3)) #[5,.inl #[6,aE.of e3],21,wl,35,s03.seq hP.wl,ho2,21,pl,35,s03.seq hP.pl,ho1,F_.o.fa,35,s03<*fo.fn,rfl,F_.o.ra,5,.inr (s03<*fo.rw_),19,aZ,λp4 h4=>?_];have s4:=aA.new (o:=.tup [V.str F_.o.name,.int ((((F_.o.rs.map λw=>V.ref w.r).length:Nat):Int) - 1)]) h4;have e4:=s4 _ _ e3;show#[p3,19,e4,Rk2.lt_line' (by rw[JF]; show us.length+1<_; lia),5,?_];refine q p3 _ _ ((s03\s4).upd n3) n3 aG ?_;rw[show(dX F_ dp k).map bY=(dS F_ dp).map bY++[(F_.b.name,F_.rb)]++[(F_.o.name,F_.o.rs.length - 1)] by unfold dX; rw[JI k2,JR k3,JL,JL,Jn]; rfl];have fra:∀(c:Str×Nat) v,cy K H3 c v->cy K (upd (upd H3 p4 (.tup [V.str F_.o.name,.int ((((F_.o.rs.map λw=>V.ref w.r).length:Nat):Int) - 1)])) p3 (.lst (us++[V.ref p1]++[V.ref p4]))) c v:=λc v z246_=>by let#[p,e,h]:=z246_; show#[p,e,K12.sqT_lst (s4<*h) e4]
     refine Rk2.Ps.app (Rk2.Ps.imp (λc v z=>fra c v z) hu3) #[#[p4,rfl,?_],trivial];rw[show(((F_.o.rs.map λw=>V.ref w.r).length:Nat):Int) - 1=((F_.o.rs.length - 1:Nat):Int) by rw[lol]; lia] at e4 ⊢;exact K12.sqT_lst (aD.of aG) e4
   . refine aX (λz=>k3 (V.int.inj (aq z))) #[5,q p3 _ _ s03 n3 e3 ?_];rw[show(dX F_ dp k).map bY=(dS F_ dp).map bY++[(F_.b.name,F_.rb)] by unfold dX; rw[JI k2,JI k3,JL]; rfl];exact hu3
def j8:FnScope ["_law_program_here","_law_names_here","_law_words","_law_chain_here","_law_kind","_law_views","_law_known","_law_row_here","_law_told","_law_new","_law_k","_law_caller"] ["_law_program_here","_law_names_here","_law_words","_law_chain_here","_law_kind","_law_views"] (az iu):=by walk_at "s"
def B0 (T:Txt K mg t):FnOk P w K mg base CX0 2 t.ya t.zf ["_law_program_here","_law_names_here","_law_words","_law_chain_here","_law_kind","_law_views"] (CJ K):=by
 have Qc:=oy (P:=P) (w:=w) (base:=base) T;have Qb:=rf (P:=P) (w:=w) (base:=base) T;refine T.AE.F.ok j8 (λvs H Q E h=>?_) (λcdv A outer s H vs Q E hr h=>?_)
 . let#[_,_,_,_,_,_,_,_,_,_,_,_,_,_,_,_,_,_,_,_,rfl,_]:=h;rfl
 . skip
   refine lx ?_;intro XX;refine(let W5:TS:=_; have hW5:aY XX ((aV iu).drop 5) W5:=(aH (ai (@PW.pt _ _ _ (dJ (aS fT (a8 4) (aj (aF>=>aF>=>aC)) (by with_unfolding_all rfl)) (dY (aS (bN j2) (bz 0x1 0x0 T.b_len cL (a8 3>=>aC)) aF (aN _))))) (aH (@du _ _ _ _ (EC Jc PySem.F.slot_list_pop PySem.F.type_list_pop IG (a8 6)) 0x0) (aH (pS 11 j8.nd (cD T.kC Qc hr (a8 0>=>(iY K (a8 3) (bO bP aF))>=>aC))) (@aK _ _ _ (fJ (cD T.l_of Qb hr ((iT K (a8 7))>=>(iY K (a8 8) (bO bP aF))>=>(iY K (a8 5) (bO bP aF))>=>aC)) (gO (iY K (a8 6) (bO bP aF)) (cq Jc KQ KR jH (iY K (a8 8) (bO bP aF)) ((iT K (a8 11))>=>aC)) gN))))) ag) (~~~(a8 6))); ?_);refine(let W4:TS:=_; have hW4:aY XX ((aV iu).drop 4) W4:=(aH (ai (aS ak (a8 4) aF (aN _)) (@aK _ _ _ (fJ (aj (aU>=>bO bP aF>=>aC)) (gO (iY K (a8 6) (bO bP aF)) (cq Jc KQ KR jH (iY K (a8 8) (bO bP aF)) ((iT K (a8 7))>=>aC)) gN))) ag) hW5); ?_);refine(let W3:TS:=_; have hW3:aY XX ((aV iu).drop 3) W3:=(aH (ai (aS ak (a8 4) aF (aN _)) (aH (pS 9 j8.nd (jo<$>(bQ ((aj (aU>=>aF>=>aC))>=>aC))<*>(bz 0x1 0x0 T.b_len cL ((iY K (a8 1) (cq Jc KQ KR jH (a8 2) ((iT K (a8 7))>=>aC)))>=>aC)))) (aH (cf PassesOwn.never rfl (fO rfl T.b_range ((bz 0x1 0x0 T.b_len cL ((iT K (a8 7))>=>aC))>=>aC)) (bD (i:=10) j8.nd rfl 0x8) (@aK _ _ _ (fJ (cD T.l_of Qb hr ((iX K (iT K (a8 7)) (a8 10))>=>(iY K (a8 8) (bO bP aF))>=>(iY K (a8 5) (bO bP aF))>=>aC)) (gO (a8 9) (a8 10) gN)))) (@aK _ _ _ (@du _ _ _ _ (cq Jc Jt Ju gF (a8 6) (a8 9>=>aC)) 0x0)))) ag) hW4); ?_);refine(let W2:TS:=_; have hW2:aY XX ((aV iu).drop 2) W2:=(aH (ji (i:=8) j8.nd rfl 0x8 (N':=["_law_frame","_law_names_here","_law_words"]) (js:=[none,some 1,some 2]) (by kernel_rfl) rfl (di (a8 3)) dD (λ_ _ _ _=>(bD (i:=0) (show(["_law_frame","_law_names_here","_law_words"]:List Str).Nodup by decide +kernel) rfl 0x8 (.inr rfl))) (λ_ _ _ _=>dC) (λ_ _ _ _=>(iY K (a8 1) (show PE _ _ (qS K "list" _ _ _) from(cq Jc KQ KR (show jd _ "list.index" (qN K) from jH) (a8 2) (aP (dj (show fE _ (kH K) from mS) (a8 0) aF (λ_ _=>rfl)) aC))))) 0x0) hW3); ?_);let#[pl,nl,wl,ch,vl,n1,n2,n3,F_,k,us,vs,fs0,G,r,c,rg,Vs0,vw,Kn,rfl,hP,hN,hch,hus,hfs,hc,hrg,hvl,hvs,hvw,hVl,h3,hK,q]:=h;show#[_,(aH (ji (i:=6) j8.nd rfl 0x8 (N':=["_law_view_here"]) (js:=[none]) (by kernel_rfl) rfl (di (a8 5)) dD (λ_ _ _ _=>(bD (i:=0) (show(["_law_view_here"]:List Str).Nodup by decide +kernel) rfl 0x8 (.inr rfl))) (λ_ _ _ _=>dC) (λ_ _ _ _=>(br (show bX _ (.type "list") (x8 K) from jn) 0x0 T.b_list iM (a8 0>=>aC))) 0x0) (aH (pS 7 j8.nd (cD T.kC Qc hr (a8 0>=>(iY K (a8 3) (bO bP aF))>=>aC))) hW2)),?_];have lus:=Rk2.Ps.len hus;have lvs:=Rk2.Ps.len hvs;have lfs:(fs0++[(G,r)]).length=fs0.length+1:=by rw[JF]; rfl
   have lV0:Vs0.length=fs0.length:=by have:=JW List.length hVl; rw[JE,JE] at this; exact this
   have lVs:(Vs0++[vw]).length=fs0.length+1:=by rw[JF,lV0]; rfl
   rw[JE] at lus;show#[5,vl,rfl,#[_,hvl],λp hp=>(let Jv1:Nat->List V->Hp->Prop:=λi acc H2=>∃as:List Mc,acc=as.map V.ref/\as.length=i/\Cpy H H2 p as ((Vs0++[vw]).take i); jT (xs:=vs) ∅ Jv1 #[[],7,aA.new hp,aG,hp,List.nodup_nil,(λa h=>by cases h),trivial] ?_ ?_ ?_)]
   . rintro i acc H2 hi ⟨as,rfl,la,hC⟩;show#[hC.pe,by rw[JE]; lia,hC.s.seq hvl]
   . rintro i x acc H2 hx ⟨as,rfl,la,hC⟩;let#[u,w_,c1,c2,l,xs,rfl,hl,hxs]:=Rk2.Ps.at hvs (n:=i) (by have:=(JH.mp hx).1; lia);rw[hx] at c1;cases c1;show#[5,l,xs,rfl,.inl (aE.of (hC.s _ _ hl)),λz hz=>?_];have s1:=aA.new (o:=.lst xs) hz;show#[s1 _ _ hC.pe,as++[z],by rw[JL]; rfl,by rw[JF,la]; rfl,?_];rw[show(Vs0++[vw]).take (i+1)=(Vs0++[vw]).take i++[w_] by rw[KE,c2]; rfl];exact(hC*>s1).push (λm=>(by
       obtain⟨w2,e2⟩:∃w2,H2 z=⇑w2:=by let#[j,hj]:=Jp m;let#[u2,t2,d1,d2,a2,x2,e2,e3,_]:=Rk2.Ps.at hC.v (n:=j) (by have:=Rk2.Ps.len hC.v; rw[JE] at this; have:=(JH.mp hj).1; lia);rw[JS,hj] at d1;cases d1;cases e2;show#[_,e3]
       rw[e2] at hz;cases hz)) (hC.s.free hz) (dW hC.pe hz) aG (Rk2.Ps.imp (λ_ _ y=>aO.mono y (hC.s\s1)) hxs)
   rintro acc H1 ⟨as,rfl,la,hC⟩;rw[lvs,Jw] at hC;rw[lvs,lVs] at la;rw[JL] at hus;let#[us0,u,rfl,hus0,fa,rfl,hfa]:=St.Ps.split1 hus;have hPs:∀{G2},aA H G2->aE K G2 pl ([F_.a,F_.b,F_.c].map λF=>V.ref F.fa):=λs=>s.seq hP.pl;have hE:∀{G2},aA H G2->∀F∈[F_.a,F_.b,F_.c],F2.FnAt K G2 F:=λs F h=>F2.FnAt.mono s (hP.ok F h).2.1;have hGm:G∈[F_.a,F_.b,F_.c]:=hfs (G,r) 0x6;show#[85,ch,35,aE.of (hC.s _ _ hch),cO _ _,pl,fa,[F_.a,F_.b,F_.c],G,r,c,rfl,hPs hC.s,hE hC.s,hP.nd,hGm,hC.s<*hfa,hc,(by show 3<=10; decide),λH2 s2=>?_];have hC:=hC*>s2;have wx:∀{G2} (x:F2.Fd),aA H G2->x∈[F_.a,F_.b,F_.c]->eI (.str x.name)=true/\([V.str F_.a.name,.str F_.b.name,.str F_.c.name]).all eI=true/\[F_.a.name,F_.b.name,F_.c.name].idxOf x.name<1000/\(∃z,[V.str F_.a.name,.str F_.b.name,.str F_.c.name][[F_.a.name,F_.b.name,F_.c.name].idxOf x.name]?=⇑z/\eQ z (.str x.name)=true)/\∀m z,m < [F_.a.name,F_.b.name,F_.c.name].idxOf x.name->[V.str F_.a.name,.str F_.b.name,.str F_.c.name][m]?=⇑z->eQ z (.str x.name)=false:=λx _ hx=>jt (ws:=[F_.a.name,F_.b.name,F_.c.name]) (K' (f:=λF:F2.Fd=>F.name) hx) (by show 3<=100; decide);show#[5,ch,rfl,#[_,aE.of (hC.s _ _ hch)],λtl htl=>iR (xs:=us0++[V.ref fa]) (λi _ v=>∃x nx,(fs0++[(G,r)])[i]?=⇑x/\v=↥nx/\aE K H nx ((F2.nms x.1).map V.str)) (λi v G G' s h=>h) ∅ (aE.of (hC.s _ _ hch)) htl ?_ ?_]
   . rintro i x G3 R_ hx s3 ⟨acc,eacc⟩ kk;have s03:=hC.s\s3;let#[u,c_,d1,d2,fx,rfl,hfx]:=Rk2.Ps.at hus (n:=i) (by have:=(JH.mp hx).1; have:=Rk2.Ps.len hus; lia);rw[hx] at d1;cases d1;rw[<- JL,JS,Jg] at d2;let#[x,d2,rfl]:=d2;have hx2:=hfs x (JM d2);have kx:=wx x.1 s03 hx2;let#[nx,hix,hnx]:=qR hP hN hx2;show#[21,.inl #[6,s03.seq hP.wl],5,fx,35,s03<*hfx,at0,wl,35,s03.seq hP.wl,kx.1,kx.2.1,kx.2.2.1,kx.2.2.2.1,kx.2.2.2.2,nl,35,s03.seq hN.l,hix,kk _ _ (aA.refl _) #[x,nx,d2,rfl,hnx]]
   rintro H3 tv s3 e3 l3 t3;have ntp:tl≠p:=dW hC.pe htl;have hC:=hC*>s3;rw[lus,lfs] at l3;obtain⟨v,ev⟩:∃v,tv[fs0.length]?=⇑v:=#[_,JU ∅]
   let#[x,nG,ex,rfl,hnG]:=t3 _ _ ev;rw[Jf (JN _),KG] at ex;cases ex;have tG:ay tv (-1)=⇑↥nG:=ve l3 ev;let#[vs0,v,rfl,hvs0,lv,uv,rfl,elv,huv]:=St.Ps.split1 hvs;have luv:=Rk2.Ps.len huv;have sH:=hC.s;have n20:=(hP.ok G hGm).2.2.2.1;have fin:∀{G2 as Vs},Cpy H G2 p as Vs->Vs=Kn->Q ↥p G2:=λh e=>by rw[e] at h; exact q p _ _ h.s h.pe h.v
   cases hK with
   | k0 =>
     show#[45,jN #[45,jN #[5,aZ,λp1 h1=>#[p1,5,.inr (aD.of aG),29,jN (jN #[5,fin (hC*>(aA.new h1)) rfl])]]]]
   | @one _ a hk e1 e2 =>
     have k3:¬ V.int k=V.int 1/\¬ V.int k=V.int 4/\fQ (.int k) [V.int 2,.int 3]=true:=by rcases hk with rfl|rfl <;> decide
     subst e2;have l1:(us0++[V.ref fa]).length=1:=lus;show#[45,aX (λz=>k3.1 (aq z)) #[45,aX (λz=>k3.2.1 (aq z)) #[5,aZ,λp1 h1=>#[p1,5,.inr (aD.of aG),29,aL k3.2.2 ?_]]]];show#[5,ch,5,.inl (aE.of ((sH\(aA.new h1)) _ _ hch)),77,aX (by rw[l1]; decide) #[5,fin (hC*>(aA.new h1)) rfl]]
   | @k4 y g p4 as4 erg hy =>
     subst erg;obtain⟨as0,l,rfl⟩:∃as0 l,as=as0++[l]:=lX (by omega);let#[ul,el,hul]:=hC.last;have kx:=jt hy ∅;show#[45,jN #[45,aL (JG rfl) #[5,aZ,λp1 h1=>?_]]];have s1:=aA.new (o:=.tup [V.str "box",.int (-1)]) h1;have e1:upd H3 p1 (.tup [V.str "box",.int (-1)]) p1=_:=aG;generalize upd H3 p1 (.tup [V.str "box",.int (-1)])=H4 at s1 e1 ⊢;have hC:=hC*>s1;have el:=s1 _ _ el;have hul:=Rk2.Ps.imp (λ_ _ z=>aO.mono z s1) hul;have ll:=Rk2.Ps.len hul;show#[21,p,35,aE.of hC.pe,(by rw[JL]; exact cO _ _),21,tl,35,aE.of (s1 _ _ e3),tG,.inl #[6,hC.s.seq hnG],5,c.r,35,hC.s<*hrg,rfl,nG,35,hC.s.seq hnG,kx.1,kx.2.1,kx.2.2.1,kx.2.2.2.1,kx.2.2.2.2,l,35,el,i6 (by rw[ll,hvw]; exact Ks hy),?_];have hC:=hC.set (o:=⇑(.box (-1))) ((F2.nms G).idxOf y) el hul #[p1,rfl,e1];generalize upd H4 l (.lst (ul.set ((F2.nms G).idxOf y) (V.ref p1)))=H5 at hC ⊢;show#[5,aZ,λp2 h2=>#[p2,5,.inr (aD.of aG),29,jN (jN #[5,fin (hC*>(aA.new h2)) rfl])]]
   | @two _ a f1 G1 r1 V1 v1 y g p4 as4 o hk erg e0 e1 hca hat hpl =>
     subst e0 e1 erg;have k3:¬ V.int k=V.int 1/\¬ V.int k=V.int 4/\fQ (.int k) [V.int 2,.int 3]=true:=by rcases hk with rfl|rfl <;> decide
     have lf:(f1++[(G1,r1)]).length=f1.length+1:=by rw[JF]; rfl
     rw[lf] at l3 la;rw[lfs,lf] at lus;rw[JL] at hus0;obtain⟨w0,u0,rfl,-,fb,rfl,hfb⟩:=St.Ps.split1 hus0;let#[as1,l2,rfl]:=lX la;let#[as0,l,rfl]:=lX (show as1.length=f1.length+1 by rw[JF] at la; exact Nat.succ.inj la);obtain⟨v2,ev2⟩:∃v,tv[f1.length]?=⇑v:=#[_,JU ∅]
     let#[x,nH,ex,rfl,hnH]:=t3 _ _ ev2;rw[Jn,Jf (JN _),KG] at ex;cases ex;have tH:ay tv (-2)=⇑↥nH:=w6 l3 ev2;have hGm1:G1∈[F_.a,F_.b,F_.c]:=hfs (G1,r1) 0x6;obtain⟨c1,hc1,-,hq1⟩:=hca.c;have kx:=jt hca.y (by have:=(hP.ok G1 hGm1).2.2.2.1; lia);have c2:ay (w0++[V.ref fb]++[V.ref fa]) (-2)=⇑↥fb:=w6 (n:=w0.length) (by rw[JF,JF]; rfl) (by rw[Jn,Jf (JN _),KG]; rfl);show#[45,aX (λz=>k3.1 (aq z)) #[45,aX (λz=>k3.2.1 (aq z)) #[5,aZ,λp1 h1=>#[p1,5,.inr (aD.of aG),29,aL k3.2.2 ?_]]]];generalize e:upd H3 p1 _=H4;have s1:=(nw e h1).1;have hC:=hC*>s1;show#[5,ch,5,.inl (aE.of (hC.s _ _ hch)),77,aL (by rw[lus]; exact JG ∅) #[5,.inl #[6,aE.of hC.pe],p,19,hC.pe,(by rw[JL]; exact GA _ _),?_]];rw[show((as0++[l]++[l2]).map V.ref).dropLast=(as0++[l]).map V.ref by rw[JL]; exact List.dropLast_concat];have hC:=hC.pop;have e3:upd H4 p (.lst ((as0++[l]).map V.ref)) tl=_:=(am ntp)\(s1 _ _ e3);generalize upd H4 p (.lst ((as0++[l]).map V.ref))=H5 at hC e3 ⊢;show#[85,ch,35,aE.of (hC.s _ _ hch),c2,pl,fb,[F_.a,F_.b,F_.c],G1,r1,c1,rfl,hPs hC.s,hE hC.s,hP.nd,hGm1,hC.s<*hfb,hc1,(by show 3<=10; decide),λH6 s6=>?_];have hC:=hC*>s6;have e3:=s6 _ _ e3;show#[5,c.r,35,hC.s<*hrg,53,tl,35,aE.of e3,tG,21,vl,35,hC.s.seq hvl,cO _ _,a,nG,lv,F2.nms G,uv,vw,o,rfl,hat,hC.s.seq hnG,aE.of (hC.s _ _ elv),Rk2.Ps.imp (λ_ _ z=>aO.mono z hC.s) huv,hvw,∅,hpl,λv H7 s7 hv7=>?_];have hC:=hC*>s7;have e3:=s7 _ _ e3;let#[ul,el,hul]:=hC.last;have ll:=Rk2.Ps.len hul;have lv1:v1.length=(F2.nms G1).length:=by rw[JL,JL] at hVl;exact(List.cons.inj (List.append_inj' hVl rfl).2).1
     show#[21,p,35,aE.of hC.pe,(by rw[JL]; exact cO _ _),21,tl,35,aE.of e3,tH,.inl #[6,hC.s.seq hnH],5,c1.r,35,hC.s<*hq1,rfl,nH,35,hC.s.seq hnH,kx.1,kx.2.1,kx.2.2.1,kx.2.2.2.1,kx.2.2.2.2,l,35,el,i6 (by rw[ll,lv1]; exact Ks hca.y),?_];show#[5,fin (hC.set (o:=o) ((F2.nms G1).idxOf y) el hul hv7) rfl]
   | @k1 y p4 as4 os erg hp4 l20 hat hos hlo =>
     subst erg;have hoo:=hP.fo;have kx:=wx F_.o (aA.refl H) hoo;let#[nx,hix,hnx]:=qR hP hN hoo;have o20:=(hP.ok F_.o hoo).2.2.2.1;let#[los,hos']:=gr hos;show#[45,aL (JG rfl) #[aZ,λz hz=>#[cB,λzl hzl=>?_]]];have s1:=(aA.new (o:=.tup [V.str "num",.int 0]) hz)\(aA.new (o:=.lst [V.ref z]) hzl);have ez:=aA.new (o:=.lst [V.ref z]) hzl _ _ (show upd H3 z (.tup [V.str "num",.int 0]) z=_ from aG);have ezl:upd (upd H3 z (.tup [V.str "num",.int 0])) zl (.lst [V.ref z]) zl=_:=aG;generalize upd (upd H3 z (.tup [V.str "num",.int 0])) zl (.lst [V.ref z])=H4 at s1 ez ezl ⊢;have hC:=hC*>s1;have e3:=s1 _ _ e3;show#[21,.inl #[6,hC.s.seq hP.wl],5,c.r,35,hC.s<*hrg,rfl,wl,35,hC.s.seq hP.wl,kx.1,kx.2.1,kx.2.2.1,kx.2.2.2.1,kx.2.2.2.2,nl,35,hC.s.seq hN.l,hix,nx,5,.inl (hC.s.seq hnx),zl,19,ezl,∅,(by rw[JE]; lia),bt (by rw[JE,KA]; show 1 * (F2.nms F_.o).length<_; lia),λnw hnw=>?_];rw[nL,JE,KA];have nH4:=hC.s.free hnw;have nnp:nw≠p:=dW hC.pe hnw;have ntl:tl≠nw:=(dW e3 hnw).symm;have nas:nw ∉ as:=λm=>by let#[j,hj]:=Jp m;let#[u2,t2,d1,d2,a2,x2,g2,g3,_]:=Rk2.Ps.at hC.v (n:=j) (by have:=Rk2.Ps.len hC.v; rw[JE] at this; have:=(JH.mp hj).1; lia);rw[JS,hj] at d1;cases d1;cases g2;rw[g3] at hnw;cases hnw
     have s2:=aA.new (o:=.lst (List.replicate (F2.nms F_.o).length (V.ref z))) hnw;have enw:upd H4 nw (.lst (List.replicate (F2.nms F_.o).length (V.ref z))) nw=_:=aG;generalize upd H4 nw (.lst (List.replicate (F2.nms F_.o).length (V.ref z)))=H5 at s2 enw ⊢;have hC:=hC*>s2;have e3:=s2 _ _ e3;have ez:=s2 _ _ ez;show#[5,c.r,35,hC.s<*hrg,rfl,p4,5,.inr (hC.s<*hp4),5,∅,∅,(let Jv2:Nat->St->Hp->Prop:=λi σ G5=>∃(v10:JK V) (xs:List V),σ=[⇑↥pl,⇑↥nl,⇑↥wl,⇑↥ch,⇑(.int 1),⇑↥vl,⇑↥p,⇑↥c.r,⇑↥tl,⇑↥nw,v10,none]/\Cpy H G5 p as (Vs0++[vw])/\G5 tl=⇑(.lst tv)/\G5 nw=⇑(.lst xs)/\Rk2.Ps (aO G5) xs (eX (os.take i) (F2.nms F_.o).length); j0 (lo:=0) (n:=as4.length) Jv2 #[9,hC,e3,enw,(by unfold eX; rw[List.take_zero,Ld,Kt,Lj]; exact pR (show aO _ zro _ from#[z,rfl,ez]) _)] ?_ ?_)]
     . rintro i σ G5 hi ⟨v10,xs,rfl,hC,e3,enw,hxs⟩;have iz:(0+(i:Int))=(i:Int):=L7 _;obtain⟨a,ha⟩:∃a,as4[i]?=⇑a:=#[_,JU hi]
       let#[o,ho,hpo]:=hos' i a ha;show#[5,c.r,35,hC.s<*hrg,13,p4,35,hC.s<*hp4,(by rw[iz]; exact bf ha),21,tl,35,aE.of e3,tG,21,vl,35,hC.s.seq hvl,cO _ _,a,nG,lv,F2.nms G,uv,vw,o,rfl,hat a (JM ha),hC.s.seq hnG,aE.of (hC.s _ _ elv),Rk2.Ps.imp (λ_ _ y=>aO.mono y hC.s) huv,hvw,∅,hpo,λv G6 s6 hv6=>?_];have hC:=hC*>s6;have e3:=s6 _ _ e3;have enw:=s6 _ _ enw;have hxs:=Rk2.Ps.imp (λ_ _ y=>aO.mono y s6) hxs;have lxs:=Rk2.Ps.len hxs;show#[21,nw,4,i,7,enw,(by rw[iz,lxs]; exact i6 (by unfold eX; rw[JF,Jr,Jk]; lia)),9,?_,(am ntl)\e3,aG,?_]
       . show#[hC.s.upd nH4,(am nnp.symm)\hC.pe,hC.hp,hC.nd,hC.f,ki enw nas hC.v]
       . rw[<- CI ho hlo];exact m6 i (Rk2.Ps.imp (λ_ _ y=>aO.lst enw y) hxs) (aO.lst enw hv6)
     . rintro σ G5 ⟨v10,xs,rfl,hC,e3,enw,hxs⟩;show#[5,.inl #[6,aE.of hC.pe],5,p,19,hC.pe,Rk2.lt_line' (by rw[JE]; lia),?_];have hC:=hC.push nas nH4 nnp enw hxs;generalize upd G5 p (.lst (as.map V.ref++[V.ref nw]))=G6 at hC ⊢;show#[45,jN #[5,aZ,λp1 h1=>#[p1,5,.inr (aD.of aG),29,jN (jN #[5,fin (hC*>(aA.new h1)) ?_])]]];rw[los,Jw]
def Gu:FnScope ["_law_chain_here","_law_kind","_law_called"] ["_law_chain_here","_law_kind","_law_called"] (az my):=by walk_at "s"
def C9 (T:Txt K mg t):FnOk P w K mg base CX0 1 t.yj t.zo ["_law_chain_here","_law_kind","_law_called"] (Gh K):=by
 refine T.AK.F.ok Gu (λvs H Q E h=>?_) (λcdv A outer s H vs Q E hr h=>?_)
 . let#[_,_,_,_,_,_,rfl,_]:=h;rfl
 . skip
   refine lx ?_;intro XX;refine(let W2:TS:=_; have hW2:aY XX ((aV my).drop 2) W2:=(aH (ai (aS ak (a8 1) aF (aN _)) (~~~(dh<$>(dG fZ (a8 0) dO (dB (bO bP aF)))<*>(bQ ((aj ((iT K (iY K (a8 0) (bO bP aF)))>=>(bN cM<$>(iT K (iY K (a8 0) (bO bP aF)))<*>aF)>=>aC))>=>aC)))) ag) (~~~(dh<$>(dG fZ (a8 0) dO (dB (bO bP aF)))<*>(dg (N':=["_law_name","_law_at"]) (js:=[none,none]) (by kernel_rfl) rfl (di (dG fZ (a8 0) (dB (bO bP aF)) (dB (bO bP aF)))) (qa (jP (jP pB))) (λ_ _ _ _=>(show PG _ _ (m9 K 2 _) from dI (n:=2) rfl (bg (bD (i:=0) (show(["_law_name","_law_at"]:List Str).Nodup by decide +kernel) rfl 0x8 (.inr rfl)) (bg (bD (i:=1) (show(["_law_name","_law_at"]:List Str).Nodup by decide +kernel) rfl 0x8 (.inr rfl)) dL)))) (λ_ _ _ _=>dC) (λ_ _ _ _=>(aj (a8 0>=>(bN cM<$>a8 1<*>aF)>=>aC))))))); ?_);let#[l,us,k,w_,ch,ch2,rfl,hl,hu,hn,h5,q]:=h;show#[_,(aH (ai (aS ak (a8 1) aF (aN _)) (~~~(a8 0)) ag) (aH (ai (aS ak (a8 1) aF (aN _)) (~~~(dh<$>a8 0<*>(bQ ((aj (a8 2>=>aF>=>aC))>=>aC)))) ag) hW2)),?_];have lu:=Rk2.Ps.len hu;cases hn with
   | k0=>show#[45,aL (JG rfl) #[5,q l us H (aA.refl _) hl (.inl rfl) hu]]
   | k1 =>
     show#[45,jN #[45,aL (JG rfl) #[21,aZ,λp1 k1=>#[cB,λp2 k2=>?_]]]];have s2:=(aA.new (o:=.tup [V.str w_,.int 0]) k1)\(aA.new (o:=.lst [V.ref p1]) k2);show#[l,p2,19,s2 _ _ hl,aG,bt (by show us.length+1<_; lia),λp3 k3=>?_];have s3:=s2\(aA.new (o:=.lst (us++[V.ref p1])) k3);exact q p3 _ _ s3 aG (.inr (s2.free k3)) (Rk2.Ps.app (Rk2.Ps.imp (λ_ _ z=>z*>s3) hu) #[#[p1,rfl,aD.of (aA.new k3 _ _ (aA.new k2 _ _ aG))],trivial])
   | @k4 c n r =>
     let#[ws,u,rfl,h1,fa,rfl,hfa]:=St.Ps.split1 hu;show#[45,jN #[45,jN #[45,aL (JG rfl) #[85,l,5,aE.of hl,λp1 k1=>?_]]]];rw[i'];have s1:=aA.new (o:=.lst ws) k1;have e1:upd H p1 (.lst ws) p1=_:=aG;generalize upd H p1 (.lst ws)=H1 at s1 e1 ⊢;show#[21,l,35,aE.of (s1 _ _ hl),cO _ _,fa,35,s1<*hfa,at0,21,l,35,aE.of (s1 _ _ hl),cO _ _,fa,35,s1<*hfa,51,aZ,λp2 k2=>#[cB,λp3 k3=>?_]];have s3:=(aA.new (o:=.tup [V.str n,.int ((r:Int)+1)]) k2)\(aA.new (o:=.lst [V.ref p2]) k3);show#[p1,p3,19,s3 _ _ e1,aG,bt (by show ws.length+1<_; have:=Rk2.Ps.len h1; rw[JF] at h5; simp at h5; lia),λp4 k4=>?_];have s4:=s3\(aA.new (o:=.lst (ws++[V.ref p2])) k4);exact q p4 _ _ (s1\s4) aG (.inr ((s1\s3).free k4)) (Rk2.Ps.app (Rk2.Ps.imp (λ_ _ z=>z*>(s1\s4)) h1) #[#[p2,rfl,aD.of (aA.new k4 _ _ (aA.new k3 _ _ aG))],trivial])
   | @k23 k_ c n r x hk =>
     let#[ws0,u0,rfl,h0,fb,rfl,hfb]:=St.Ps.split1 hu;let#[ws,u,rfl,h1,fa,rfl,hfa]:=St.Ps.split1 h0;have k3:¬ V.int k=V.int 0/\¬ V.int k=V.int 1/\¬ V.int k=V.int 4:=by rcases hk with rfl|rfl <;> decide
     show#[45,aX (λz=>k3.1 (aq z)) #[45,aX (λz=>k3.2.1 (aq z)) #[45,aX (λz=>k3.2.2 (aq z)) #[85,l,5,aE.of hl,λp1 k1=>?_]]]];rw[IJ];have s1:=aA.new (o:=.lst ws) k1;have e1:upd H p1 (.lst ws) p1=_:=aG;generalize upd H p1 (.lst ws)=H1 at s1 e1 ⊢;show#[1365,l,5,aE.of (s1 _ _ hl),λp2 k2=>?_];rw[F7];have s2:=s1\(aA.new (o:=.lst [V.ref fa]) k2);have e2:upd H1 p2 (.lst [V.ref fa]) p2=_:=aG;have e1:=aA.new (o:=.lst [V.ref fa]) k2 _ _ e1;generalize upd H1 p2 (.lst [V.ref fa])=H2 at s2 e1 e2 ⊢;show#[p2,rfl,#[_,aE.of e2],λpL hpL=>iR (xs:=[V.ref fa]) (λi G v=>∃b,v=↥b/\aD K G b [.str n,.int (((r+1:Nat)):Int)]) (λi v G G' s z247_=>by let#[b,e,h]:=z247_; show#[b,e,s<*h]) (by show 1<=1000000; decide) (aE.of e2) hpL ?_ ?_ (by intro _ _ _ _ h z; let#[p,ys,e1,e2,e3,y1,r1,e4,y2,r2,e5,e6,z]:=z; show#[p,ys,e1,e2,e3,y1,r1,e4,y2,r2,e5,e6,h _ _ z])]
     . rintro i w G R_ hx sG ⟨acc,eacc⟩ kk;obtain rfl:w=↥fa:=by have:=JM hx;exact JO.mp this
       show#[fa,5,(s2\sG)<*hfa,103251,aZ,λb hb=>kk _ _ (aA.new hb) #[b,rfl,aD.of ?_]];rw[bW (λz=>by rw[z,eacc] at hb; cases hb)];exact aG
     . rintro G vs sG eG lG tG;obtain⟨v,rfl⟩:∃v,vs=[v]:=by match vs,lG with | [v],_=>exact⟨v,rfl⟩
       let#[b,rfl,hb]:=tG 0 v rfl;show#[p1,pL,19,sG _ _ e1,eG,bt (by show ws.length+1<_; have:=Rk2.Ps.len h1; rw[JF,JF] at h5; simp at h5; lia),λp4 k4=>?_];have s4:=(s2\sG).trans (aA.new (o:=.lst (ws++[V.ref b])) k4);exact q p4 _ _ s4 aG (.inr ((s2\sG).free k4)) (Rk2.Ps.app (Rk2.Ps.imp (λ_ _ z=>z*>s4) h1) #[#[b,rfl,(cZ\(aA.new k4))<*hb],trivial])
def iW:FnScope ["_law_row_here","_law_names_here","_law_view_here","_law_kind","_law_first","_law_cells","_law_words","_law_boxes","_law_on","_law_wild","_law_one","_law_given","_law_k","_law_called"] ["_law_row_here","_law_names_here","_law_view_here","_law_kind","_law_first","_law_cells","_law_words","_law_boxes","_law_on"] (az fU):=by walk_at "s"
def DX (T:Txt K mg t):FnOk P w K mg base CX0 2 t.yW t.zb ["_law_row_here","_law_names_here","_law_view_here","_law_kind","_law_first","_law_cells","_law_words","_law_boxes","_law_on"] (BW K):=by
 have Qb:=rf (P:=P) (w:=w) (base:=base) T;have Qa:=me (P:=P) (w:=w) (base:=base) T;refine T.AB.F.ok iW (λvs H Q E h=>?_) (λcdv A outer s H vs Q E hr h=>?_)
 . let#[_,_,_,_,_,_,_,_,_,_,_,_,_,_,_,_,_,_,_,rfl,_]:=h;rfl
 . skip
   refine lx ?_;intro XX;refine(let W9:TS:=_; have hW9:aY XX ((aV fU).drop 9) W9:=(~~~(iY K (bQ ((aj (aU>=>a8 13>=>(br fX 0x0 T.b_tuple fS (a8 11>=>aC))>=>a8 8>=>aC))>=>(aj (aU>=>(aj (aU>=>aF>=>aC))>=>a8 8>=>aC))>=>aC)) (br gz 0x0 T.b_int gw ((cW ak (a8 9) aF (aN _))>=>aC)))); ?_);refine(let W8:TS:=_; have hW8:aY XX ((aV fU).drop 8) W8:=(aH (pS 13 iW.nd (iY K (bQ ((iT K (a8 0))>=>(iY K (a8 6) (br gz 0x0 T.b_int gw ((cW ak (iT K (a8 0)) (iL K (a8 6)) (aN _))>=>aC)))>=>aC)) (br gz 0x0 T.b_int gw ((cW ak (a8 9) aF (aN _))>=>aC)))) hW9); ?_);refine(let W7:TS:=_; have hW7:aY XX ((aV fU).drop 7) W7:=(d8 (ai (aS ak (a8 9) aF (aN _)) (@aK _ _ _ (pS 11 iW.nd (dG fZ (a8 11) dO (dB (bO bP aF))))) ag) hW8); ?_);refine(let W6:TS:=_; have hW6:aY XX ((aV fU).drop 6) W6:=(d8 (ai (aS ak (a8 9) aF (aN _)) (@aK _ _ _ (@du _ _ _ _ (cq Jc Jt Ju gF (a8 11) ((aj (aU>=>aF>=>aC))>=>aC)) 0x0)) ag) hW7); ?_);refine(let W5:TS:=_; have hW5:aY XX ((aV fU).drop 5) W5:=(aH (cf PassesOwn.never rfl (fO rfl T.b_range ((bz 0x1 0x0 T.b_len cL (a8 11>=>aC))>=>aC)) (bD (i:=12) iW.nd rfl 0x8) (@aK _ _ _ (ai (@PW.pt _ _ _ (fR (fW (nM (iY K (a8 11) (a8 12)))) (gC (aS ak (a8 9) (bN cM<$>aF<*>a8 12) (aN _))))) (@aK _ _ _ (fJ (cD T.kE Qa hr ((bN cM<$>(aM bc<$>(iL K (a8 5))<*>aF)<*>a8 12)>=>a8 7>=>aC)) (gO (a8 11) (a8 12) gN))) ag))) hW6); ?_);refine(let W4:TS:=_; have hW4:aY XX ((aV fU).drop 4) W4:=(aH (ji (i:=11) iW.nd rfl 0x8 (N':=["_law_atom_here","_law_names_here","_law_view_here"]) (js:=[none,some 1,some 2]) (by kernel_rfl) rfl (kJ (iT K (a8 0))) dD (λ_ _ _ _=>(bD (i:=0) (show(["_law_atom_here","_law_names_here","_law_view_here"]:List Str).Nodup by decide +kernel) rfl 0x8 (.inr rfl))) (λ_ _ _ _=>dC) (λ_ _ _ _=>(cD T.l_of Qb hr (a8 0>=>a8 1>=>a8 2>=>aC))) 0x0) hW5); ?_);refine(let W3:TS:=_; have hW3:aY XX ((aV fU).drop 3) W3:=(aH (ai (aS fT (a8 3) (aj (aF>=>aF>=>aC)) (by with_unfolding_all rfl)) (aH (pS 10 iW.nd (cD T.l_of Qb hr ((iT K (a8 0))>=>a8 1>=>a8 2>=>aC))) (d8 (ai (@PW.pt _ _ _ (fR (fW (nM (a8 10))) (gC (aS ak (a8 9) aF (aN _))))) (@aK _ _ _ (pS 10 iW.nd (cD T.kE Qa hr ((aM bc<$>(iL K (a8 5))<*>aF)>=>a8 7>=>aC)))) ag) (~~~(iY K (bQ ((aj (aU>=>a8 10>=>aC))>=>(aj (aU>=>a8 8>=>aC))>=>aC)) (br gz 0x0 T.b_int gw ((cW ak (a8 9) aF (aN _))>=>aC)))))) ag) hW4); ?_);refine(let W2:TS:=_; have hW2:aY XX ((aV fU).drop 2) W2:=(aH (ai (aS ak (a8 3) aF (aN _)) (~~~(aj (aU>=>(iY K (bQ ((iY K (a8 7) (aM bE<$>(aM bc<$>(iL K (a8 5))<*>aF)<*>aF))>=>fi>=>aC)) (br gz 0x0 T.b_int gw ((cW ak (aM bE<$>(iL K (a8 5))<*>aF) aF (aN _))>=>aC)))>=>a8 8>=>aC))) ag) hW3); ?_);refine(let W1:TS:=_; have hW1:aY XX ((aV fU).drop 1) W1:=(aH (ai (@PW.pt _ _ _ (fR (aS ak (a8 3) aF (aN _)) (gC (@PW.pt _ _ _ (dJ (aS fT (a8 3) (aj (aF>=>aF>=>aC)) (by with_unfolding_all rfl)) (dY (lT (jE (a8 4))))))))) (~~~(iY K (bQ ((aj (aU>=>a8 8>=>aC))>=>(aj (aU>=>(aj (aU>=>aF>=>aC))>=>a8 8>=>aC))>=>aC)) (br gz 0x0 T.b_int gw ((cW ak (a8 9) aF (aN _))>=>aC)))) ag) hW2); ?_);let#[r,nl,vl,cl,wl,bl,on,k,fst_,rg,ws,us,vw,c0,c1,w0,w1,wt,bs,rfl,hr_,hrp,hrg,h20a,hn,hv,hu,hl,h20,h9,hno,hcl,hw,n0,n1,hB,hbs,h8,q]:=h;show#[_,(aH (pS 9 iW.nd (aM bE<$>(iL K (a8 5))<*>aF)) hW1),?_];show#[5,cl,35,hcl,at0,19,(show(0:Int)<16 by decide),?_];rcases hrg with⟨hk,y,g,p,as,rfl,hg,hat⟩|⟨hk,a,rfl,ha⟩
   . let#[hp,h100]:=hrp y g p as rfl;have l20:=h20a y g p as rfl;rcases hk with rfl|rfl|rfl
     . show#[45,jN #[5,aZ,λp1 h1=>#[p1,5,.inr (aD.of aG),29,jN (jN ?_)]]];generalize e:upd H p1 _=H1;have s1:=(nw e h1).1;show#[45,jN #[5,aZ,λp2 h2=>#[p2,5,.inr (aD.of aG),29,jN ?_]]];have s2:=s1\(aA.new (o:=.tup [V.int 2,.int 3]) h2);generalize upd H1 p2 (.tup [V.int 2,.int 3])=H2 at s2 ⊢;have KO:∀a∈as,∃o,cz (lk ws vw) a=⇑o/\(∀u,o=⇑u->bI u/\bh u):=λa ha=>by let#[o,ho,k9,hN]:=j5 (hat a ha) hl h9 hno;show#[o,ho,λu e=>#[(k9 u e).ok,hN u e]]
       show#[5,r,35,s2<*hr_,rfl,p,rfl,#[_,s2<*hp],λgl hgl=>pq (xs:=as) (λi G v=>∃o:JK Rk2.Tr,aO G o v/\∀u,o=⇑u->bI u/\bh u) (λi v G G' s z248_=>by let#[o,a,b]:=z248_; show#[o,aO.mono a s,b]) ∅ (s2<*hp) hgl ?_ ?_]
       . rintro i a G R_ hx sG ⟨acc,eacc⟩ kk;have ma:=JM hx;let#[o,ho,ok]:=KO a ma;have sG2:=s2\sG;show#[85,a,nl,vl,ws,us,vw,o,rfl,hat a ma,sG2.seq hn,sG2.seq hv,Rk2.Ps.imp (λ_ _ z=>aO.mono z sG2) hu,hl,∅,ho,λv G' s' hv'=>kk _ _ s' #[o,jp (s' _ _ eacc) hv',ok]]
       rintro G vs sG eG lG tG;have ngl:H gl=none:=s2.free hgl;let#[os,z1,z2,z3]:=kU (P:=λ_ (o:JK Rk2.Tr) v=>aO (ers gl G) o v/\∀u,o=⇑u->bI u/\bh u) tG;have lo:os.length=as.length:=by have:=Rk2.Ps.len z3; lia
       have hps:Rk2.Ps (aO G) vs os:=Rk2.Ps.imp (λo v z249_=>by let#[_,h,_]:=z249_; exact aO.mono h cZ) z3;have hok:∀o∈os,∀u,o=⇑u->bI u/\bh u:=λo ho=>by let#[i,hi]:=Jp ho;let#[_,_,_,h]:=z2 i o hi;exact h
       show#[5,gl,5,.inl (aE.of eG),5,∅,∅,(let Jv1:Nat->St->Hp->Prop:=λi σ G=>∃(v12:JK V) (vs:List V) (os:List (JK Rk2.Tr)),σ=[⇑↥r,⇑↥nl,⇑↥vl,⇑(.int 0),⇑(.bl fst_),⇑↥cl,⇑↥wl,⇑↥bl,⇑(.int (on:Int)),⇑(.int (c0%16)),none,⇑↥gl,v12,none]/\aA H G/\G gl=⇑(.lst vs)/\vs.length=as.length/\Rk2.Ps (aO G) vs os/\(∀o∈os,∀u,o=⇑u->bI u/\bh u)/\∀j,j<i->∃u,os[j]?=⇑⇑u; j0 (lo:=0) (n:=vs.length) Jv1 #[_,vs,os,rfl,s2\sG,eG,lG,hps,hok,λj hj=>absurd hj (K9 j)] ?_ ?_)]
       . rintro i σ G3 hi ⟨v12,vs3,os3,rfl,s3,e3,l3,p3,k3,a3⟩;have lo3:=Rk2.Ps.len p3;have iz:(0+(i:Int))=(i:Int):=L7 _;let#[v,o,b1,b2,b3]:=Rk2.Ps.at p3 (n:=i) ∅;have ib:ay vs3 (0+(i:Int))=⇑v:=by rw[iz]; exact bf b1
         have sm:∀G5,aA G3 G5->∀(u:Rk2.Tr) (v5:V),Rk2.RAt G5 u v5->bI u->bh u->aA H (upd G5 gl (.lst (vs3.set i v5)))/\(vs3.set i v5).length=as.length/\Rk2.Ps (aO (upd G5 gl (.lst (vs3.set i v5)))) (vs3.set i v5) (os3.set i ⇑u)/\(∀o∈os3.set i ⇑u,∀u,o=⇑u->bI u/\bh u)/\∀j,j<i+1->∃w,(os3.set i ⇑u)[j]?=⇑⇑w:=λG5 s5 u v5 r5 t5 n5=>by
           have e5:=s5 _ _ e3;show#[(s3\s5).upd ngl,by rw[KD]; exact l3,m6 i (Rk2.Ps.imp (λ_ _ z=>aO.lst e5 (aO.mono z s5)) p3) (show aO _ ⇑u v5 from aO.lst e5 r5),λo ho w hw=>?_,λj hj=>?_]
           . rcases qo ho with rfl|ho
             . cases hw; show#[t5,n5]
             . exact k3 o ho w hw
           . by_cases ej:j=i
             . subst ej;show#[u,KH ∅]
             . rw[KS (λz=>ej z.symm)];exact a3 j ∅
         cases o with
         | none =>
           cases b3;show#[21,gl,35,aE.of e3,ib,5,aL rfl (aL rfl #[5,cl,35,s3.seq hcl,at0,19,#[#[],#[]],666,bl,bs,rfl,s3.seq hB,hbs,λt4 v4 H4 s4 r4 k4=>?_])];let#[y1,y2,y3,y4,y5]:=sm H4 s4 t4 v4 r4 (St.TOk.tr k4) (iS k4);show#[21,gl,4,i,7,s4 _ _ e3,by rw[iz]; exact i6 ∅,17,y1,aG,y2,y3,y4,y5]
         | some tr =>
           show#[21,gl,35,aE.of e3,ib,5,aX (by let#[p,rfl]:=hU b3; exact λz=>by cases aq z) #[2717,?_]];by_cases hw_:V.int (c0%16)=V.int (3+(0+(i:Int)))
           . refine aL (JG hw_) #[5,cl,35,s3.seq hcl,at0,19,#[#[],#[]],666,bl,bs,rfl,s3.seq hB,hbs,λt4 v4 H4 s4 r4 k4=>?_];let#[y1,y2,y3,y4,y5]:=sm H4 s4 t4 v4 r4 (St.TOk.tr k4) (iS k4);show#[21,gl,4,i,7,s4 _ _ e3,by rw[iz]; exact i6 ∅,17,y1,aG,y2,y3,y4,y5]
           . refine aX (λz=>hw_ (aq z)) #[_,vs3,os3,rfl,s3,e3,l3,p3,k3,λj hj=>?_];by_cases ej:j=i
             . subst ej; show#[tr,b2]
             . exact a3 j ∅
       rintro σ G3 ⟨v12,vs3,os3,rfl,s3,e3,l3,p3,k3,a3⟩;let#[ts,lts,hts]:=xc p3 k3 (λj hj=>a3 j (by have:=Rk2.Ps.len p3; lia));clear p3 k3 a3;show#[λσ' G=>∃(vs:List V) (ts:List Rk2.Tr),σ'=[⇑↥r,⇑↥nl,⇑↥vl,⇑(.int 0),⇑(.bl fst_),⇑↥cl,⇑↥wl,⇑↥bl,⇑(.int (on:Int)),⇑(.int (c0%16)),none,⇑↥gl,v12,none]/\aA H G/\G gl=⇑(.lst vs)/\Rk2.Ps (Tr4 G) vs ts/\ts.length<=21,?_,?_]
       . show#[45,?_];by_cases hw_:c0%16=1
         . refine aL (JG (JW V.int hw_)) #[5,.inl #[6,aE.of e3],aZ,λg1 m1=>?_];have t1:=aA.new (o:=.tup [V.str "num",.int 0]) m1;have e4:=t1 _ _ e3;have l4:=Rk2.Ps.len hts;show#[gl,19,e4,Rk2.lt_line' ∅,vs3++[↥g1],ts++[.num 0],rfl,(s3\t1).upd ngl,aG,Rk2.Ps.imp (λ_ _ z=>DD e4 z) (Rk2.Ps.app (Rk2.Ps.imp (λ_ _ z=>Tr4.mono t1 z) hts) #[(show Tr4 _ (.num 0) ↥g1 from#[#[g1,rfl,aG],(St.Tr9.num #[] #[]).ok,trivial]),trivial]),by rw[JF]; show ts.length+1<=21; lia]
         . exact aX (λz=>hw_ (V.int.inj (aq z))) #[vs3,ts,rfl,s3,e3,hts,∅]
       clear hts lts e3 s3 l3;rintro σ' G4 ⟨vs4,ts,rfl,s4,e4,hts,lts⟩;show#[λσ' G=>∃(gl:Mc) (vs:List V) (ts:List Rk2.Tr),σ'=[⇑↥r,⇑↥nl,⇑↥vl,⇑(.int 0),⇑(.bl fst_),⇑↥cl,⇑↥wl,⇑↥bl,⇑(.int (on:Int)),⇑(.int (c0%16)),none,⇑↥gl,v12,none]/\aA H G/\G gl=⇑(.lst vs)/\Rk2.Ps (Tr4 G) vs ts/\ts.length<=21,?_,?_]
       . show#[45,?_];by_cases hw_:c0%16=2
         . refine aL (JG (JW V.int hw_)) #[85,gl,5,aE.of e4,λg1 m1=>?_];let#[ts',l',h']:=Fg hts;show#[g1,_,ts',rfl,s4\(aA.new m1),aG,Rk2.Ps.imp (λ_ _ z=>Tr4.mono (aA.new m1) z) h',∅]
         . exact aX (λz=>hw_ (V.int.inj (aq z))) #[gl,vs4,ts,rfl,s4,e4,hts,∅]
       clear hts lts e4 s4 vs4 ts ngl eG hgl tG z1 z2 z3 hps;rintro σ' G5 ⟨gl,vs5,ts,rfl,s5,e5,hts,lts⟩;have wat:∀k:Bool,∃wd,ay (V.str w0::.str w1::wt) (if k=true then 1 else 0)=⇑(.str wd)/\K12.Nm wd:=λk=>by
         cases k
         . show#[w0,at0,n0]
         . show#[w1,bf (j:=1) rfl,n1]
       let#[wd,iwd,nwd]:=wat (decide (V.str g=V.str w0));show#[5,r,35,s5<*hr_,53,r,35,s5<*hr_,13,wl,35,s5.seq hw,at0,rfl,.inr #[5,wl,35,s5.seq hw,iwd,aZ,λg1 m1=>?_]];have t1:=s5\(aA.new (o:=.lst [V.str g,.str wd]) m1);have e6:=aA.new (o:=.lst [V.str g,.str wd]) m1 _ _ e5;have eg:upd G5 g1 (.lst [V.str g,.str wd]) g1=_:=aG;have hts:=Rk2.Ps.imp (λ_ _ z=>Tr4.mono (aA.new (o:=.lst [V.str g,.str wd]) m1) z) hts;generalize upd G5 g1 (.lst [V.str g,.str wd])=G6 at t1 e6 eg hts ⊢;obtain⟨wc,iwc,nwc⟩:∃wc,ay [V.str g,.str wd] (if decide (V.int (c0%16)=V.int 6)=true then 1 else 0)=⇑(.str wc)/\K12.Nm wc:=by
         cases decide (V.int (c0%16)=V.int 6)
         . show#[g,rfl,hg]
         . show#[wd,rfl,nwd]
       show#[11,.inr #[5,g1,35,aE.of eg,iwc,?_]];show#[21,gl,5,.inl #[aE.of e6,λq1 k1=>#[5,fF,λq2 k2=>#[aZ,λq3 k3=>#[5,cn,λq4 k4=>#[aZ,λq5 k5=>?_]]]]]];have u1:=aA.new (o:=.tup vs5) k1;have u2:=aA.new (o:=.tup [V.str "call",.str wc,↥q1,.int (on:Int)]) k2;have u3:=aA.new (o:=.tup [V.str "num",.int 0]) k3;have u4:=aA.new (o:=.tup [V.str "out",↥q3,.int (on:Int)]) k4;have u5:=aA.new (o:=.lst [V.ref q2,↥q4]) k5;have uu:=u1\(u2\(u3\(u4\u5)));by_cases hw_:c0%16=7
       . show#[11,.inr #[5,q5,35,aE.of aG,(show ay [V.ref q2,↥q4] (if decide (V.int (c0%16)=V.int 7)=true then 1 else 0)=⇑↥q4 by rw[JR (JG (JW V.int hw_))]; rfl),q q4 _ _ _ (t1\uu) (aD.of (u5 _ _ aG)) (.out (.inr (.inl rfl)) #[#[q3,rfl,(u4\u5) _ _ aG],(St.Tr9.num #[] #[]).ok,trivial])]]
       . show#[11,.inr #[5,q5,35,aE.of aG,(show ay [V.ref q2,↥q4] (if decide (V.int (c0%16)=V.int 7)=true then 1 else 0)=⇑↥q2 by rw[JI (λz=>hw_ (V.int.inj (aq z)))]; rfl),q q2 _ _ _ (t1\uu) (aD.of ((u3\(u4\u5)) _ _ aG)) (.call rfl nwc (aD.of ((u2\(u3\(u4\u5))) _ _ aG)) (Rk2.Ps.imp (λ_ _ z=>Tr4.mono uu z) hts) ∅)]]
     . show#[45,aL (JG rfl) (aL rfl ?_)];show#[5,aZ,λg1 m1=>#[aZ,λg2 m2=>#[5,cn,λg3 m3=>#[aZ,λg4 m4=>?_]]]];have t2:=aA.new (o:=.tup [V.str "num",.int 0]) m2;have t3:=aA.new (o:=.tup [V.str "out",↥g2,.int (on:Int)]) m3;have t4:=aA.new (o:=.lst [V.ref g1,↥g3]) m4;have tt:=(aA.new (o:=.tup [V.str "go",.int (on:Int)]) m1)\(t2\(t3\t4));by_cases hw_:c0%16=1
       . show#[11,.inr #[5,g4,35,aE.of aG,(show ay [V.ref g1,↥g3] (if decide (V.int (c0%16)=V.int 1)=true then 1 else 0)=⇑↥g3 by rw[JR (JG (JW V.int hw_))]; rfl),q g3 _ _ _ ((aA.refl H)\tt) (aD.of (t4 _ _ aG)) (.out (.inl rfl) #[#[g2,rfl,(t3\t4) _ _ aG],(St.Tr9.num #[] #[]).ok,trivial])]]
       . show#[11,.inr #[5,g4,35,aE.of aG,(show ay [V.ref g1,↥g3] (if decide (V.int (c0%16)=V.int 1)=true then 1 else 0)=⇑↥g1 by rw[JI (λz=>hw_ (V.int.inj (aq z)))]; rfl),q g1 _ _ _ ((aA.refl H)\tt) (aD.of ((t2\(t3\t4)) _ _ aG)) (.go (.inl rfl))]]
     . show#[45,jN #[5,aZ,λp1 h1=>#[p1,5,.inr (aD.of aG),29,jN (jN ?_)]]];generalize e:upd H p1 _=H1;have s1:=(nw e h1).1;let#[b,_,eb,b0,b1]:=mT hbs (c1 / 3);rw[JE,h8] at eb;have eb:ay (bs.map V.int) (c1 / 3%8)=⇑(.int b):=eb;show#[45,aL (JG rfl) #[21,cl,35,s1.seq hcl,51,#[#[],#[]],19,(show(0:Int)<8 by decide),bl,35,s1.seq hB,eb,aZ,λp2 h2=>?_]];have s2:=s1\(aA.new (o:=.lst [V.int b,.non]) h2);have e2:upd H1 p2 (.lst [V.int b,.non]) p2=_:=aG;generalize upd H1 p2 (.lst [V.int b,.non])=H2 at s2 e2 ⊢;by_cases hw_:c1%3=0
       . show#[5,cl,35,s2.seq hcl,51,(show(0:Int)<3 by decide),rfl,.inr #[5,p2,35,aE.of e2,(show ay [V.int b,.non] (if decide (V.int (c1%3)=V.int 0)=true then 1 else 0)=some .non by rw[JR (JG (JW V.int hw_))]; rfl),5,cn,λp3 h3=>q p3 _ _ _ (s2\(aA.new h3)) (aD.of aG) (.wait rfl (.inl #[7]))]]
       . show#[5,cl,35,s2.seq hcl,51,(show(0:Int)<3 by decide),rfl,.inr #[5,p2,35,aE.of e2,(show ay [V.int b,.non] (if decide (V.int (c1%3)=V.int 0)=true then 1 else 0)=⇑(.int b) by rw[JI (λz=>hw_ (V.int.inj (aq z)))]; rfl),5,cn,λp3 h3=>q p3 _ _ _ (s2\(aA.new h3)) (aD.of aG) (.wait rfl (.inr #[b,7,∅]))]]
   . have k3:¬ V.int k=V.int 1/\¬ V.int k=V.int 4/\fQ (.int k) [V.int 2,.int 3]=true:=by rcases hk with rfl|rfl <;> decide
     show#[45,aX (λz=>k3.1 (aq z)) ?_];cases fst_ with
     | false =>
       show#[5,aZ,λp1 h1=>#[p1,5,.inr (aD.of aG),29,aL k3.2.2 ?_]];show#[21,aL #[] ?_];show#[5,aZ,λg1 m1=>#[aZ,λg2 m2=>#[5,cn,λg3 m3=>#[aZ,λg4 m4=>?_]]]];have t2:=aA.new (o:=.tup [V.str "num",.int 0]) m2;have t3:=aA.new (o:=.tup [V.str "out",↥g2,.int (on:Int)]) m3;have t4:=aA.new (o:=.lst [V.ref g1,↥g3]) m4;have tt:=(aA.new (o:=.tup [V.str "go",.int (on:Int)]) m1)\(t2\(t3\t4));by_cases hw_:c0%16=1
       . show#[11,.inr #[5,g4,35,aE.of aG,(show ay [V.ref g1,↥g3] (if decide (V.int (c0%16)=V.int 1)=true then 1 else 0)=⇑↥g3 by rw[JR (JG (JW V.int hw_))]; rfl),q g3 _ _ _ ((aA.new h1)\tt) (aD.of (t4 _ _ aG)) (.out (.inr (.inr #[hk,rfl])) #[#[g2,rfl,(t3\t4) _ _ aG],(St.Tr9.num #[] #[]).ok,trivial])]]
       . show#[11,.inr #[5,g4,35,aE.of aG,(show ay [V.ref g1,↥g3] (if decide (V.int (c0%16)=V.int 1)=true then 1 else 0)=⇑↥g1 by rw[JI (λz=>hw_ (V.int.inj (aq z)))]; rfl),q g1 _ _ _ ((aA.new h1)\tt) (aD.of ((t2\(t3\t4)) _ _ aG)) (.go (.inr hk))]]
     | true =>
       show#[5,aZ,λp1 h1=>#[p1,5,.inr (aD.of aG),29,aL k3.2.2 ?_]];generalize e:upd H p1 _=H1;have s1:=(nw e h1).1;show#[21,jN ?_];show#[45,aX (λz=>k3.2.1 (aq z)) #[5,aZ,λp2 h2=>#[p2,5,.inr (aD.of aG),29,aL k3.2.2 ?_]]];have s2:=s1\(aA.new (o:=.tup [V.int 2,.int 3]) h2);generalize upd H1 p2 (.tup [V.int 2,.int 3])=H2 at s2 ⊢;let#[o,ho,k9,hN]:=j5 ha hl h9 hno;show#[5,r,35,s2<*hr_,53,a,nl,vl,ws,us,vw,o,rfl,ha,s2.seq hn,s2.seq hv,Rk2.Ps.imp (λ_ _ z=>aO.mono z s2) hu,hl,∅,ho,λv H3 s3 hv3=>?_];have s03:=s2\s3;show#[λσ' G=>∃(tr:Rk2.Tr) (v:V),σ'=[⇑↥r,⇑↥nl,⇑↥vl,⇑(.int k),⇑(.bl true),⇑↥cl,⇑↥wl,⇑↥bl,⇑(.int (on:Int)),⇑(.int (c0%16)),⇑v,none,none,none]/\aA H G/\Tr4 G tr v,?_,?_]
       . cases o with
         | none =>
           cases hv3;show#[21,aL rfl (aL rfl #[5,cl,35,s03.seq hcl,at0,19,#[#[],#[]],10,bl,bs,rfl,s03.seq hB,hbs,λt4 v4 H4 s4 r4 k4=>#[t4,v4,rfl,s03\s4,r4,St.TOk.tr k4,iS k4]])]
         | some tr =>
           show#[21,aX (by let#[p,rfl]:=hU hv3; exact λz=>by cases aq z) #[45,?_]];by_cases hw_:c0%16=1
           . exact aL (JG (JW V.int hw_)) #[5,cl,35,s03.seq hcl,at0,19,#[#[],#[]],10,bl,bs,rfl,s03.seq hB,hbs,λt4 v4 H4 s4 r4 k4=>#[t4,v4,rfl,s03\s4,r4,St.TOk.tr k4,iS k4]]
           . exact aX (λz=>hw_ (V.int.inj (aq z))) #[tr,v,rfl,s03,hv3,(k9 tr rfl).ok,hN tr rfl]
       rintro σ' G ⟨tr,v,rfl,sG,hT⟩;show#[5,aZ,λg1 m1=>#[5,aZ,λg2 m2=>#[aZ,λg3 m3=>?_]]];have t1:=aA.new (o:=.tup [V.str "back",v]) m1;have t2:=aA.new (o:=.tup [V.str "go",.int (on:Int)]) m2;have t3:=aA.new (o:=.lst [V.ref g1,↥g2]) m3;have tt:=sG\(t1\(t2\t3));by_cases hw_:c0%16=2
       . show#[11,.inr #[5,g3,35,aE.of aG,(show ay [V.ref g1,↥g2] (if decide (V.int (c0%16)=V.int 2)=true then 1 else 0)=⇑↥g2 by rw[JR (JG (JW V.int hw_))]; rfl),q g2 _ _ _ tt (aD.of (t3 _ _ aG)) (.go (.inr hk))]]
       . show#[11,.inr #[5,g3,35,aE.of aG,(show ay [V.ref g1,↥g2] (if decide (V.int (c0%16)=V.int 2)=true then 1 else 0)=⇑↥g1 by rw[JI (λz=>hw_ (V.int.inj (aq z)))]; rfl),q g1 _ _ _ tt (aD.of ((t2\t3) _ _ aG)) (.back hk rfl (hT*>(t1\(t2\t3))))]]
def mC:FnScope ["_law_row_here","_law_names_here","_law_view_here","_law_kind","_law_first","_law_act_here","_law_there","_law_one","_law_atom_here"] ["_law_row_here","_law_names_here","_law_view_here","_law_kind","_law_first","_law_act_here"] (az ii):=by walk_at "s"
def A' (T:Txt K mg t):FnOk P w K mg base CX0 2 t.ym t.zr ["_law_row_here","_law_names_here","_law_view_here","_law_kind","_law_first","_law_act_here"] (FD K):=by
 have Qb:=rf (P:=P) (w:=w) (base:=base) T;refine T.AM.F.ok mC (λvs H Q E h=>?_) (λcdv A outer s H vs Q E hr h=>?_)
 . let#[_,_,_,_,_,_,_,_,_,_,_,_,_,_,rfl,_]:=h;rfl
 . skip
   refine lx ?_;intro XX;refine(let W5:TS:=_; have hW5:aY XX ((aV ii).drop 5) W5:=(~~~dr); ?_);refine(let W4:TS:=_; have hW4:aY XX ((aV ii).drop 4) W4:=(aH (cf PassesOwn.never rfl (jY true true rfl T.b_zip ((iT K (a8 5))>=>(iT K (a8 0))>=>aC)) (dI rfl (bg (bD (i:=7) mC.nd rfl 0x8) (bg (bD (i:=8) mC.nd rfl 0x8) dL))) (aH (pS 6 mC.nd (cD T.l_of Qb hr (a8 8>=>a8 1>=>a8 2>=>aC))) (@aK _ _ _ (ai (@PW.pt _ _ _ (fR (fW (nM (a8 6))) (gC (aS (i3 hr.units) (a8 6) (a8 7) (aN _))))) (~~~dr) ag)))) hW5); ?_);refine(let W3:TS:=_; have hW3:aY XX ((aV ii).drop 3) W3:=(aH (ai (@PW.pt _ _ _ (fR (aS mB (iT K (a8 5)) aU (aN _)) (fR (aS mB (iT K (a8 5)) (iT K (a8 0)) (aN _)) (gC (aS mB (bz 0x1 0x0 T.b_len cL ((iT K (a8 5))>=>aC)) (bz 0x1 0x0 T.b_len cL ((iT K (a8 0))>=>aC)) (aN _)))))) (~~~dr) ag) hW4); ?_);refine(let W2:TS:=_; have hW2:aY XX ((aV ii).drop 2) W2:=(aH (ai (aS fT (a8 3) (aj (aF>=>aF>=>aC)) (by with_unfolding_all rfl)) (aH (pS 6 mC.nd (cD T.l_of Qb hr ((iT K (a8 0))>=>a8 1>=>a8 2>=>aC))) (~~~(ig (cW ak (iT K (a8 5)) aU (aN _)) (ig (Ft (iV (a8 6))) (jv (cW (oM hr.units) (iT K (a8 5)) (a8 6) (aN _))))))) ag) hW3); ?_);refine(let W1:TS:=_; have hW1:aY XX ((aV ii).drop 1) W1:=(aH (ai (@PW.pt _ _ _ (fR (aS ak (a8 3) aF (aN _)) (gC (@PW.pt _ _ _ (dJ (aS fT (a8 3) (aj (aF>=>aF>=>aC)) (by with_unfolding_all rfl)) (dY (lT (jE (a8 4))))))))) (~~~(cW ak (iT K (a8 5)) aU (aN _))) ag) hW2); ?_);let#[r,nl,vl,a,on,k,fst_,rg,ws,us,vw,as,fb_,ds,rfl,hr_,hrp,hrg,ha,hA,hn,hv,hu,hl,h20,h9,hno,hds,q]:=h;show#[_,(aH (ai (aS ak (a8 3) aF (aN _)) (~~~dr) ag) hW1),?_];rcases hrg with⟨hk,y,g,p,as_,rfl,hg,hat⟩|⟨hk,x_,rfl,hat⟩
   . let#[hp,h100]:=hrp y g p as_ rfl;rcases hk with rfl|rfl|rfl
     . show#[45,jN #[45,jN #[5,aZ,λp1 h1=>#[p1,5,.inr (aD.of aG),29,jN (jN ?_)]]]];generalize e:upd H p1 _=H1;have s1:=(nw e h1).1;show#[5,aZ,λp2 h2=>#[p2,5,.inr (aD.of aG),29,jN ?_]];have s2:=s1\(aA.new (o:=.tup [V.int 2,.int 3]) h2);generalize upd H1 p2 (.tup [V.int 2,.int 3])=H2 at s2 ⊢;have hds:(df (lk ws vw) as_).map (λos=>[C5.s "call",.s g,.t os])=⇑ds:=hds;let#[os,hos,rfl]:=Jg.mp hds;let#[los,hos']:=gr hos;have hA2:=hA*>s2;generalize has:as=as5 at hA2;cases hA2 with
       | go h=>exact absurd h #[]
       | wait h _=>exact absurd h #[]
       | back h _ _=>exact absurd h #[]
       | out _ _ =>
         subst has;show#[5,a,35,s2<*ha,at0,13,iP (aL rfl (q false _ s2 (.nc rfl rfl 0x3)))]
       | @call g' q1 us1 ts _ ng hq1 hts lts =>
         subst has;have fin:∀G,aA H2 G->∀b,b=ck [.s "call",.s g',.t (ts.map some)] [.s "call",.s g,.t os]->Q (.bl b) G:=λG sG b e=>e ▸ q _ _ (s2\sG) (.ca rfl rfl ng (sG<*hq1) (Rk2.Ps.imp (λ_ _ z=>Tr4.mono sG z) hts) lts);have lts':=Rk2.Ps.len hts;show#[5,a,35,s2<*ha,at0,13,iN #[5,a,35,s2<*ha,13,r,35,s2<*hr_,29,?_]];by_cases eg:g'=g
         case neg=>exact aL (by rw[JP (λz=>eg (V.str.inj z))]; rfl) (aL rfl (fin H2 (aA.refl _) _ (by rw[gJ,gJ,JP eg,Ki,Jx])))
         subst eg;refine aX (by rw[JG rfl]; decide) #[5,a,35,s2<*ha,rfl,q1,5,.inr hq1,5,r,35,s2<*hr_,rfl,p,5,.inr (s2<*hp),13,?_];by_cases el:us1.length=as_.length
         case neg=>exact aL (by rw[JP (λz=>el (by have:=V.int.inj z; lia))]; rfl) (fin H2 (aA.refl _) _ (by rw[gJ,gJ,qK,JP (show ¬ os=ts.map some from λz=>el (by have:=JW List.length z; rw[JE] at this; lia)),Ki,Jx,Jx]))
         refine aX (by rw[JG (by rw[el])]; decide) #[5,a,35,s2<*ha,13,r,35,s2<*hr_,rfl,q1,p,rfl,#[_,hq1],#[_,s2<*hp],(let Jv1:Nat->St->Hp->Prop:=λi σ G=>∃(v6 v7 v8:JK V),σ=[⇑↥r,⇑↥nl,⇑↥vl,⇑(.int 0),⇑(.bl fst_),⇑↥a,v6,v7,v8]/\aA H2 G/\∀j,j<i->os[j]?=(ts.map some)[j]?; lK (b1:=true) (b2:=true) (xs:=us1) (ys:=as_) Jv1 #[17,aA.refl _,λj hj=>absurd hj (K9 j)] ?_ ?_ ?_)]
         . rintro i σ G hi ⟨v6,v7,v8,rfl,sG,_⟩;show#[sG<*hq1,(s2\sG)<*hp]
         . rintro i x y_ σ G b hx hy ⟨v6,v7,v8,rfl,sG,hj⟩ hb;let#[o,ho,hpl]:=hos' i y_ hy;have ma:=hat y_ (JM hy);let#[o',ho',k9,hN]:=j5 ma hl h9 hno;rw[hpl] at ho';cases ho';let#[u1,t,c1,c2,c3]:=Rk2.Ps.at hts (n:=i) (by have:=(JH.mp hx).1; lia);rw[hx] at c1;cases c1;have sb:=sG\(aA.new (o:=.tup [x,y_]) hb);show#[b,5,aD.of aG,403,?_];generalize upd G b (.tup [x,y_])=G1 at sb ⊢;have s3:=s2\sb;show#[85,y_,nl,vl,ws,us,vw,o,rfl,ma,s3.seq hn,s3.seq hv,Rk2.Ps.imp (λ_ _ z=>aO.mono z s3) hu,hl,∅,hpl,λv G2 s4 hv4=>?_];have sF:=sb\s4;have ti:(ts.map some)[i]?=⇑⇑t:=by rw[JS,c2]; rfl
           have bad:¬ o=⇑t->Q (.bl false) G2:=λe=>fin G2 sF _ (by rw[gJ,gJ,qK,JP (show ¬ os=ts.map some from λz=>e (by rw[z,ti] at ho; exact(Option.some.inj ho).symm)),Ki,Jx,Jx])
           cases o with
           | none =>
             cases hv4;show#[21,aL rfl (aL rfl (bad 0xB))]
           | some tu =>
             show#[21,aX (by let#[pu,rfl]:=hU hv4; exact λz=>by cases aq z) #[21,DQ (k9 tu rfl).ok c3.o hv4 (c3.r*>sF) #[5,?_]]];by_cases e3:tu=t
             . subst e3;refine aX (by rw[JG rfl]; decide) #[17,sF,λj hj'=>?_];rcases Km.mp hj' with h|h
               . exact hj j h
               . subst h; rw[ho,ti]
             . exact aL (by rw[JP e3]; rfl) (bad (λz=>e3 (Option.some.inj z)))
         . rintro σ G ⟨v6,v7,v8,rfl,sG,hj⟩;refine fin G sG _ ?_;rw[gJ,gJ,qK,va,JG rfl,JG rfl,JG (L6 λj=>?_)]
           . rfl
           . by_cases hjj:j<min us1.length as_.length
             . exact hj j hjj
             . rw[Jy.mpr ∅,Jy.mpr (by rw[JE]; lia)]
     . show#[45,jN #[45,aL (JG rfl) (aL rfl ?_)]];let#[kd,r1,rfl]:=hA.kd;show#[5,a,35,ha,at0,rfl,by rw[show decide (V.str kd=V.str "go")=decide (kd="go") from decide_eq_decide.mpr #[λz=>V.str.inj z,λz=>by rw[z]]]; exact q _ _ (aA.refl H) (.go (.inl rfl) rfl)]
     . show#[45,aL (JG rfl) (q true H (aA.refl _) (.t4 rfl))]
   . have k3:¬ V.int k=V.int 1/\¬ V.int k=V.int 4/\fQ (.int k) [V.int 2,.int 3]=true:=by rcases hk with rfl|rfl <;> decide
     show#[45,aX (λz=>k3.2.1 (aq z)) #[45,aX (λz=>k3.1 (aq z)) ?_]];cases fst_ with
     | false =>
       show#[5,aZ,λp1 h1=>#[p1,5,.inr (aD.of aG),29,aL k3.2.2 ?_]];show#[21,aL #[] ?_];let#[kd,r1,rfl]:=hA.kd;show#[5,a,35,(aA.new h1)<*ha,at0,rfl,by rw[show decide (V.str kd=V.str "go")=decide (kd="go") from decide_eq_decide.mpr #[λz=>V.str.inj z,λz=>by rw[z]]]; exact q _ _ (aA.new h1) (.go (.inr #[hk,rfl]) rfl)]
     | true =>
       show#[5,aZ,λp1 h1=>#[p1,5,.inr (aD.of aG),29,aL k3.2.2 ?_]];generalize e:upd H p1 _=H1;have s1:=(nw e h1).1;show#[21,jN ?_];show#[5,aZ,λp2 h2=>#[p2,5,.inr (aD.of aG),29,aL k3.2.2 ?_]];have s2:=s1\(aA.new (o:=.tup [V.int 2,.int 3]) h2);generalize upd H1 p2 (.tup [V.int 2,.int 3])=H2 at s2 ⊢;let#[o,ho,k9,hN]:=j5 hat hl h9 hno;have hds:(cz (lk ws vw) x_).map (λo=>[C5.s "back",.p o])=⇑ds:=hds;rw[ho] at hds;cases hds;show#[5,r,35,s2<*hr_,53,x_,nl,vl,ws,us,vw,o,rfl,hat,s2.seq hn,s2.seq hv,Rk2.Ps.imp (λ_ _ z=>aO.mono z s2) hu,hl,∅,ho,λv H3 s3 hv3=>?_];have s03:=s2\s3;have hA3:=hA*>s03;let#[kd,r1,rfl]:=hA.kd;by_cases hkb:kd="back"
       case neg =>
         show#[5,a,35,s03<*ha,at0,13,aX (λz=>hkb 0xC) (q false _ s03 (.nb hk rfl rfl hkb))]
       subst hkb;obtain⟨t,u,rfl,ht⟩:∃t u,r1=[u]/\Tr4 H3 t u:=by
         generalize e:V.str "back"::r1=as at hA3;cases hA3 with
         | go _=>exact absurd (V.str.inj (List.cons.inj e).1) 0x3
         | out _ _=>exact absurd (V.str.inj (List.cons.inj e).1) 0x3
         | wait _ _=>exact absurd (V.str.inj (List.cons.inj e).1) 0x3
         | call _ _ _ _ _=>exact absurd (V.str.inj (List.cons.inj e).1) 0x3
         | back _ _ h=>show#[4,(List.cons.inj e).2,h]
       show#[5,a,35,s03<*ha,at0,13,aL (JG rfl) ?_];have fin:∀b,b=ck [.s "back",.p ⇑t] [.s "back",.p o]->Q (.bl b) H3:=λb e=>e ▸ q _ _ s03 (.bk hk rfl rfl ht);cases o with
       | none =>
         cases hv3;show#[21,jN (fin _ (by rw[gJ,xY,JG rfl,JP 0xB]; rfl))]
       | some tu =>
         show#[21,aL (by let#[pu,rfl]:=hU hv3; rfl) #[5,a,35,s03<*ha,13,E2 ht.o (k9 tu rfl).ok ht.r hv3 (fin _ ?_)]];rw[gJ,xY,va,JG rfl,K3,MX];exact decide_eq_decide.mpr #[λz=>by rw[z],λz=>(Option.some.inj z).symm]
def oH:FnScope ["_law_views","_law_found","_law_view_here"] ["_law_views"] (az nA):=by walk_at "s"
def Ir (T:Txt K mg t):FnOk P w K mg base CX0 1 t.ye t.zi ["_law_views"] (CB K):=by
 refine T.AH.F.ok oH (λvs H Q E h=>?_) (λcdv A outer s H vs Q E hr h=>?_)
 . let#[_,_,_,rfl,_]:=h;rfl
 . skip
   refine lx ?_;intro XX;refine(let W2:TS:=_; have hW2:aY XX ((aV nA).drop 2) W2:=(~~~(a8 1)); ?_);let#[l,ws,Kn,rfl,hl,hw,hk,hK,q]:=h;show#[_,(aH (pS 1 oH.nd (bQ aC)) (aH (cf PassesOwn.never rfl (di (a8 0)) (bD (i:=2) oH.nd rfl 0x8) (@aK _ _ _ (pS 1 oH.nd (dh<$>a8 1<*>a8 2)))) hW2)),?_];have lw:=Rk2.Ps.len hw;show#[fA,λl0 h0=>#[5,l,rfl,#[_,(aA.new h0).seq hl],(let Jv1:Nat->St->Hp->Prop:=λi σ H2=>∃v2 lf us ko,σ=[⇑↥l,⇑↥lf,v2]/\aA H H2/\H lf=none/\H2 lf=⇑(.lst us)/\Rk2.Ps (aO H2) us ko/\ko.length<=20 * i/\dP ko; qX (xs:=ws) Jv1 #[_,l0,[],[],rfl,aA.new h0,h0,aG,trivial,Jm _,λo h=>by cases h] ?_ ?_ ?_)]]
   . rintro i σ H2 hi ⟨v2,lf,us,ko,rfl,s2,e0,e2,p2,l2,o2⟩;exact s2.seq hl
   . rintro i y σ H2 hy ⟨v2,lf,us,ko,rfl,s2,e0,e2,p2,l2,o2⟩;have iw:i<ws.length:=(JH.mp hy).1;let#[u,kn,a1,a2,b,vs,rfl,eb,pb]:=Rk2.Ps.at hw (n:=i) ∅;rw[hy] at a1;cases a1;have hkn:=hk kn (JM a2);have lu:=Rk2.Ps.len p2;have lv:=Rk2.Ps.len pb;show#[21,lf,b,us,vs,7,e2,s2 _ _ eb,bt ∅,λz hz=>?_];have s3:=aA.new (o:=.lst (us++vs)) hz;show#[_,z,_,ko++kn,rfl,s2\s3,s2.free hz,aG,Rk2.Ps.app (Rk2.Ps.imp (λ_ _ y=>aO.mono y s3) p2) (Rk2.Ps.imp (λ_ _ y=>aO.mono y (s2\s3)) pb),(by rw[JF]; lia),o2.app hkn.1]
   . rintro σ H2 ⟨v2,lf,us,ko,rfl,s2,e0,e2,p2,l2,o2⟩;show#[5,q lf us ko H2 s2 e0 e2 p2 #[∅,o2]]
def jl:FnScope ["_law_program_here","_law_cell","_law_chain_here","_law_kind","_law_calm","_law_spot","_law_wild"] ["_law_program_here","_law_cell","_law_chain_here","_law_kind","_law_calm"] (az ik):=by walk_at "s"
def Cu (T:Txt K mg t):FnOk P w K mg base CX0 2 t.yX t.zc ["_law_program_here","_law_cell","_law_chain_here","_law_kind","_law_calm"] (Hd K):=by
 have Qc:=oy (P:=P) (w:=w) (base:=base) T;refine T.AC.F.ok jl (λvs H Q E h=>?_) (λcdv A outer s H vs Q E hr h=>?_)
 . let#[_,_,_,_,_,_,_,_,_,_,_,rfl,_]:=h;rfl
 . skip
   refine lx ?_;intro XX;refine(let W5:TS:=_; have hW5:aY XX ((aV ik).drop 5) W5:=(~~~(aj (a8 5>=>(br fX 0x0 T.b_tuple fS (a8 2>=>aC))>=>aC))); ?_);refine(let W4:TS:=_; have hW4:aY XX ((aV ik).drop 4) W4:=(aH (ai (@PW.pt _ _ _ (dJ (aS ak (a8 6) aF (aN _)) (dY (aS ak (a8 3) aF (aN _))))) (@aK _ _ _ (pS 2 jl.nd (dh<$>(dG fZ (a8 2) dO (dB (bO bP aF)))<*>(bQ ((aj ((iT K (iY K (a8 2) (bO bP aF)))>=>aF>=>aC))>=>aC))))) ag) hW5); ?_);refine(let W3:TS:=_; have hW3:aY XX ((aV ik).drop 3) W3:=(d8 (ai (@PW.pt _ _ _ (dJ (aS ak (a8 6) aF (aN _)) (dJ (aS (bN j2) (iT K (iY K (a8 2) (bO bP aF))) aF (aN _)) (dY (aS ak (iT K (cD T.kC Qc hr (a8 0>=>(aj ((iT K (iY K (a8 2) (bO bP aF)))>=>(bN i4<$>(iT K (iY K (a8 2) (bO bP aF)))<*>aF)>=>aC))>=>aC))) aU (aN _)))))) (@aK _ _ _ (pS 2 jl.nd (dh<$>(dG fZ (a8 2) dO (dB (bO bP aF)))<*>(bQ ((aj ((iT K (iY K (a8 2) (bO bP aF)))>=>(bN i4<$>(iT K (iY K (a8 2) (bO bP aF)))<*>aF)>=>aC))>=>aC))))) ag) hW4); ?_);refine(let W2:TS:=_; have hW2:aY XX ((aV ik).drop 2) W2:=(d8 (ai (@PW.pt _ _ _ (fR (@PW.pt _ _ _ (dJ (aS ak (a8 3) aF (aN _)) (dY (aS mB (a8 6) aF (aN _))))) (gC (@PW.pt _ _ _ (dJ (aS (bN j2) (a8 3) aF (aN _)) (dJ (aS ak (a8 6) aF (aN _)) (dY (aS ak (iT K (cD T.kC Qc hr (a8 0>=>(iY K (a8 2) (bO bP aF))>=>aC))) aU (aN _))))))))) (@aK _ _ _ (pS 5 jl.nd (aj ((bQ ((aj (aF>=>(aj (aU>=>aF>=>aC))>=>aC))>=>aC))>=>(aj (aU>=>fi>=>aF>=>aC))>=>aC)))) ag) hW3); ?_);refine(let W1:TS:=_; have hW1:aY XX ((aV ik).drop 1) W1:=(aH (pS 6 jl.nd (bN cM<$>(aM bE<$>a8 1<*>aF)<*>(aM eN<$>aF<*>a8 4))) hW2); ?_);let#[pl,wl,ch,c,k,cm,F_,us,fs0,G,r,rfl,hP,hch,hus,hG,hr_,hk1,h3,q]:=h;show#[_,(aH (pS 5 jl.nd (aj (bQ aC>=>(aj (aU>=>(aj (aU>=>aF>=>aC))>=>aC))>=>aC))) hW1),?_];show#[fA,λl1 k1=>#[aZ,λn1 k2=>#[aZ,λa1 k3=>#[aZ,λq1 k4=>?_]]]];have t2:=aA.new (o:=.tup [V.str "num",.int 3]) k2;have t3:=aA.new (o:=.tup [V.str "back",↥n1]) k3;have t4:=aA.new (o:=.tup [V.ref l1,↥a1]) k4;have sp0:SpN H (upd (upd (upd (upd H l1 (.lst [])) n1 (.tup [V.str "num",.int 3])) a1 (.tup [V.str "back",↥n1])) q1 (.tup [V.ref l1,↥a1])) "back" ↥q1:=.bk aG k1 ((t2\(t3\t4)) _ _ aG) (t4 _ _ aG) ((t3\t4) _ _ aG);have s0:=(aA.new (o:=.lst []) k1)\(t2\(t3\t4));generalize upd (upd (upd (upd H l1 (.lst [])) n1 (.tup [V.str "num",.int 3])) a1 (.tup [V.str "back",↥n1])) q1 (.tup [V.ref l1,↥a1])=H1 at sp0 s0 ⊢;clear k1 k2 k3 k4 t2 t3 t4;show#[83,(show(0:Int)<10 by decide),83,.inl #[#[],#[]],19,?_];generalize c%10+10 * cm=W;rw[JL] at hus;let#[us0,u,rfl,hus0,fa,rfl,hfa]:=St.Ps.split1 hus;have hfa:aD K H fa [.str G.name,.int (r:Int)]:=hfa;have hPs:∀{G2},aA H G2->aE K G2 pl ([F_.a,F_.b,F_.c].map λF=>V.ref F.fa):=λs=>s.seq hP.pl;have hE:∀{G2},aA H G2->∀F∈[F_.a,F_.b,F_.c],F2.FnAt K G2 F:=λs F h=>F2.FnAt.mono s (hP.ok F h).2.1;have l10:([F_.a,F_.b,F_.c]).length<=10:=by show 3<=10; decide
   have rw_:∀{r:Nat},r<G.rs.length->∃c:Rw,G.rs[r]?=⇑c/\∃rest,aD K H c.r (.str c.k::rest):=λh=>by let#[rest,hq,_]:=(hP.ok G hG).2.1.rk _ (KL h);show#[_,JU h,rest,hq]
   have lus:=Rk2.Ps.len hus0;rw[JE] at lus;show#[λσ' G2=>∃sv kd,σ'=[⇑↥pl,⇑(.int c),⇑↥ch,⇑(.int k),⇑(.int cm),⇑sv,⇑(.int W)]/\aA H G2/\SpN H G2 kd sv,?_,?_]
   . have no:∀G2,aA H1 G2->∃sv kd,[⇑↥pl,⇑(.int c),⇑↥ch,⇑(.int k),⇑(.int cm),⇑↥q1,⇑(.int W)]=[⇑↥pl,⇑(.int c),⇑↥ch,⇑(.int k),⇑(.int cm),⇑sv,⇑(.int W)]/\aA H G2/\SpN H G2 kd sv:=λG2 s=>#[9,s0\s,sp0*>s]
     have no1:=no H1 (aA.refl _);show#[45,?_];by_cases h0:k=0
     . refine aL (JG (JW V.int h0)) #[45,?_];by_cases h2:W=2
       . exact aX (by rw[h2]; decide) #[333,aX (by rw[h0]; decide) (jN no1)]
       . refine aL (by rw[JP (λz=>h2 (V.int.inj z))]; rfl) (aL rfl ?_);show#[aZ,λn1 k1=>#[aZ,λz1 k2=>#[cB,λl1 k3=>#[cn,λa1 k4=>#[aZ,λq1 k5=>?_]]]]];have t2:=aA.new (o:=.tup [V.int 1,↥n1]) k2;have t3:=aA.new (o:=.lst [V.ref z1]) k3;have t4:=aA.new (o:=.tup [V.str "wait",.non,.int 0]) k4;have t5:=aA.new (o:=.tup [V.ref l1,↥a1]) k5;show#[9,s0\((aA.new k1)\(t2\(t3\(t4\t5)))),.wt aG (s0.trans ((aA.new k1)\t2) |>.free k3) ((t4\t5) _ _ aG) ((t3\(t4\t5)) _ _ aG) (t5 _ _ aG) ((t2\(t3\(t4\t5))) _ _ aG)]
     . refine aX (λz=>h0 (V.int.inj (aq z))) (jN #[333,?_]);by_cases hk:2<k
       case neg=>exact aX (λz=>hk (Ke z)) (jN no1)
       refine aL (JG hk) #[45,?_];by_cases h2:W=2
       case neg=>exact aX (λz=>h2 (V.int.inj (aq z))) (jN no1)
       let#[c1,hc1,rest,hq1]:=rw_ hr_;refine aL (JG (JW V.int h2)) #[85,ch,35,aE.of (s0 _ _ hch),cO _ _,pl,fa,[F_.a,F_.b,F_.c],G,r,c1,rfl,hPs s0,hE s0,hP.nd,hG,s0<*hfa,hc1,l10,λH2 s2=>#[c1.r,35,(s0\s2)<*hq1,at0,13,?_]];by_cases hc:c1.k="call"
       case neg=>exact aX (λz=>hc 0xC) (no H2 s2)
       refine aL (JG (JW V.str hc)) ?_;show#[aZ,λn1 k1=>#[aZ,λz1 k2=>#[cB,λl1 k3=>#[cn,λa1 k4=>#[aZ,λq1 k5=>?_]]]]];have t2:=aA.new (o:=.tup [V.int 1,↥n1]) k2;have t3:=aA.new (o:=.lst [V.ref z1]) k3;have t4:=aA.new (o:=.tup [V.str "wait",.non,.int 0]) k4;have t5:=aA.new (o:=.tup [V.ref l1,↥a1]) k5;show#[9,(s0\s2).trans ((aA.new k1)\(t2\(t3\(t4\t5)))),.wt aG ((s0\s2).trans ((aA.new k1)\t2) |>.free k3) ((t4\t5) _ _ aG) ((t3\(t4\t5)) _ _ aG) (t5 _ _ aG) ((t2\(t3\(t4\t5))) _ _ aG)]
   rintro σ' G2 ⟨sv,kd,rfl,s2,hsv⟩;show#[λσ' G3=>∃ch' us' r',σ'=[⇑↥pl,⇑(.int c),⇑↥ch',⇑(.int k),⇑(.int cm),⇑sv,⇑(.int W)]/\aA G2 G3/\G3 ch'=⇑(.lst (us0++[V.ref us']))/\aD K G3 us' [.str G.name,.int ((r':Nat):Int)]/\r'<G.rs.length,?_,?_]
   . have no:∀G3,aA G2 G3->∃ch' us' r',[⇑↥pl,⇑(.int c),⇑↥ch,⇑(.int k),⇑(.int cm),⇑sv,⇑(.int W)]=[⇑↥pl,⇑(.int c),⇑↥ch',⇑(.int k),⇑(.int cm),⇑sv,⇑(.int W)]/\aA G2 G3/\G3 ch'=⇑(.lst (us0++[V.ref us']))/\aD K G3 us' [.str G.name,.int ((r':Nat):Int)]/\r'<G.rs.length:=λG3 s=>#[ch,fa,r,rfl,s,(s2\s) _ _ hch,(s2\s)<*hfa,hr_]
     have no1:=no G2 (aA.refl _);show#[45,?_];by_cases h0:W=0
     case neg=>exact aX (λz=>h0 (V.int.inj (aq z))) (jN no1)
     refine aL (JG (JW V.int h0)) #[21,ch,35,aE.of (s2 _ _ hch),cO _ _,fa,35,s2<*hfa,205,?_];by_cases hr1:(0:Int)<(r:Int)
     case neg=>exact aX (λz=>hr1 (Ke z)) (jN no1)
     refine aL (JG hr1) #[85,ch,35,aE.of (s2 _ _ hch),cO _ _,fa,35,s2<*hfa,at0,21,ch,35,aE.of (s2 _ _ hch),cO _ _,fa,35,s2<*hfa,51,aZ,λp1 k1=>?_];have er:(r:Int) - 1=((r - 1:Nat):Int):=by lia
     let#[c1,hc1,rest,hq1]:=rw_ (show r - 1<G.rs.length by lia);have s3:=s2\(aA.new (o:=.tup [V.str G.name,.int ((r:Int) - 1)]) k1);have g3:=aA.new (o:=.tup [V.str G.name,.int ((r:Int) - 1)]) k1;have e1:upd G2 p1 (.tup [V.str G.name,.int ((r:Int) - 1)]) p1=_:=aG;generalize upd G2 p1 (.tup [V.str G.name,.int ((r:Int) - 1)])=G3 at s3 g3 e1 ⊢;show#[pl,p1,[F_.a,F_.b,F_.c],G,r - 1,c1,rfl,hPs s3,hE s3,hP.nd,hG,(by rw[<- er]; exact aD.of e1),hc1,l10,λH4 s4=>#[c1.r,35,(s3\s4)<*hq1,at0,13,?_]];by_cases hc:c1.k="call"
     case neg=>exact aX (λz=>hc 0xC) (no H4 (g3\s4))
     have s04:=s3\s4;refine aL (JG (JW V.str hc)) #[85,ch,5,aE.of (s04 _ _ hch),λp2 k2=>?_];rw[i'];have s5:=s04\(aA.new (o:=.lst us0) k2);show#[21,ch,35,aE.of (s5 _ _ hch),cO _ _,fa,35,s5<*hfa,at0,21,ch,35,aE.of (s5 _ _ hch),cO _ _,fa,35,s5<*hfa,51,aZ,λp3 k3=>#[cB,λp4 k4=>?_]];have t3:=aA.new (o:=.tup [V.str G.name,.int ((r:Int) - 1)]) k3;have t4:=aA.new (o:=.lst [V.ref p3]) k4;show#[p2,p4,19,(t3\t4) _ _ aG,aG,bt (by show us0.length+1<_; lia),λp5 k5=>?_];have t5:=aA.new (o:=.lst (us0++[V.ref p3])) k5;show#[p5,p3,r - 1,rfl,(g3\s4).trans ((aA.new k2)\(t3\(t4\t5))),aG,(by rw[<- er]; exact aD.of ((t4\t5) _ _ aG)),∅]
   rintro σ' G3 ⟨ch',f3,r3,rfl,s3,e3,hf3,hr3⟩;have s03:=s2\s3;have fin:∀{G4 ch2 f2 r2},aA G3 G4->G4 ch2=⇑(.lst (us0++[V.ref f2]))->aD K G4 f2 [.str G.name,.int ((r2:Nat):Int)]->r2<G.rs.length->vZ (uN (kI (qi 5) (kI (jg (λxs H Q=>∃p ys,xs=[V.ref p]/\((aE K H p ys/\∀l,H l=none->Q (V.ref l) (upd H l (HO.tup ys)))\/(aD K H p ys/\Q (V.ref p) H))) (kI (qi 2) nX)) nX))) { nx:=λx H'=>Q V.non H',rt:=Q } [⇑↥pl,⇑(.int c),⇑↥ch2,⇑(.int k),⇑(.int cm),⇑sv,⇑(.int W)] G4:=λ{G4 ch2 f2 r2} s h1 h2 h3=>by show#[21,ch2,5,.inl #[aE.of h1,λp1 k1=>#[aZ,λp2 k2=>?_]]];have t2:=aA.new (o:=.tup [sv,↥p1]) k2;have t1:=(aA.new (o:=.tup (us0++[V.ref f2])) k1)\t2;refine q p2 sv ↥p1 kd r2 _ ((s03\s).trans t1) aG ((hsv*>(s3\s)).mono t1) h3 #[p1,5,aD.of (t2 _ _ aG),?_];rw[JL];exact rH (Rk2.Ps.imp (λ_ _ z=>z*>((s03\s).trans t1)) hus0) #[f2,rfl,t1<*h2]
   show#[45,?_];by_cases h1:W=1
   case neg=>exact aX (λz=>h1 (V.int.inj (aq z))) (jN (fin (aA.refl _) e3 hf3 hr3))
   refine aL (JG (JW V.int h1)) #[45,?_];by_cases hk:k=1
   case neg=>exact aX (λz=>hk (V.int.inj (aq z))) (fin (aA.refl _) e3 hf3 hr3)
   refine aL (JG (JW V.int hk)) #[85,ch',5,aE.of e3,λp2 k2=>?_];rw[i'];have t2:=aA.new (o:=.lst us0) k2;show#[21,ch',35,aE.of (t2 _ _ e3),cO _ _,f3,35,t2<*hf3,at0,aZ,λp3 k3=>#[cB,λp4 k4=>?_]];have t3:=aA.new (o:=.tup [V.str G.name,.int 1]) k3;have t4:=aA.new (o:=.lst [V.ref p3]) k4;show#[p2,p4,19,(t3\t4) _ _ aG,aG,bt (by show us0.length+1<_; lia),λp5 k5=>?_];have t5:=aA.new (o:=.lst (us0++[V.ref p3])) k5;exact fin (r2:=1) (t2\(t3\(t4\t5))) aG (aD.of ((t4\t5) _ _ aG)) (hk1 hk)
def rm:FnScope ["_law_program_here","_law_cell","_law_turned"] ["_law_program_here","_law_cell"] (az mX):=by walk_at "s"
def DN (T:Txt K mg t):FnOk P w K mg base CX0 1 t.yq t.zw ["_law_program_here","_law_cell"] (FX K):=by
 refine T.AO.F.ok rm (λvs H Q E h=>?_) (λcdv A outer s H vs Q E hr h=>?_)
 . let#[_,_,_,rfl,_]:=h;rfl
 . skip
   refine lx ?_;intro XX;refine(let W2:TS:=_; have hW2:aY XX ((aV mX).drop 2) W2:=(~~~(a8 2)); ?_);let#[pl,c,Fs,rfl,hP,h3,q]:=h;show#[_,(aH (pS 2 rm.nd (dh<$>(dG fZ (a8 0) (dB (aM bE<$>a8 1<*>aF)) dO)<*>(dG fZ (a8 0) dO (dB (aM bE<$>a8 1<*>aF))))) (aH (ai (aS ak (aM bE<$>(aM bc<$>a8 1<*>aF)<*>aF) aF (aN _)) (@aK _ _ _ (pS 2 rm.nd (Di rfl 0x0 T.b_list 0x0 T.b_reversed (a8 2>=>aC)))) ag) hW2)),?_];obtain⟨k,hk⟩:∃k:Nat,c%3=(k:Int):=#[(c%3).toNat,by have:=ce c 3 #[]; lia]
   have s3:(0:Int)<3:=by decide
   show#[339,s3,5,pl,5,hP,λp1 k1=>#[339,s3,5,pl,5,(aA.new k1).seq hP,λp2 k2=>?_]];rw[hk] at k2 ⊢;rw[qz,<- MZ] at k2;rw[qz,ke,<- MZ,<- List.map_take];have e1:=aA.new (o:=.lst ((Fs.take k).map λF=>V.ref F.fa)) k2 _ _ (show upd H p1 (.lst ((Fs.drop k).map λF=>V.ref F.fa)) p1=_ from aG);have s2:=(aA.new (o:=.lst ((Fs.drop k).map λF=>V.ref F.fa)) k1)\(aA.new (o:=.lst ((Fs.take k).map λF=>V.ref F.fa)) k2);show#[p1,p2,19,e1,aG,bt (by rw[JE,JE,KI,Jk]; lia),λp3 k3=>?_];rw[<- JL];have s3:=s2\(aA.new (o:=.lst ((Fs.drop k++Fs.take k).map λF=>V.ref F.fa)) k3);have pm:(Fs.drop k++Fs.take k).Perm Fs:=List.perm_append_comm.trans (by rw[Lc]);show#[83,#[#[],#[]],19,(show(0:Int)<2 by decide),13,?_];by_cases hc:c / 3%2=1
   . refine aL (JG (JW V.int hc)) #[5,p3,5,aE.of aG,λp4 k4=>#[5,?_]];rw[<- List.map_reverse];exact q p4 _ _ (s3\(aA.new k4)) aG ((List.reverse_perm _)\pm)
   . exact aX (λz=>hc (V.int.inj (aq z))) #[5,q p3 _ _ s3 aG pm]
def pQ:FnScope ["_law_program_here","_law_spots","_law_marks","_law_k","_law_due","_law_handed","_law_found"] ["_law_program_here","_law_spots","_law_marks","_law_k","_law_due"] (az oI):=by walk_at "s"
def Hb (T:Txt K mg t):FnOk P w K mg base CX0 20 t.yY t.zd ["_law_program_here","_law_spots","_law_marks","_law_k","_law_due"] (BI K t):=by
 have QL:=BX (P:=P) (w:=w) (base:=base) T;refine T.AD.F.ok pQ (λvs H Q E h=>?_) (λcdv A outer s H vs Q E hr h=>?_)
 . let#[_,_,_,_,_,_,_,_,_,_,_,_,rfl,_]:=h;rfl
 . skip
   refine lx ?_;intro XX;refine(let W1:TS:=_; have hW1:aY XX ((aV oI).drop 1) W1:=(aH (pS 6 pQ.nd (cD T.spot_holds QL hr ((iL K (a8 5))>=>(iL K (a8 5))>=>(iL K (a8 5))>=>a8 3>=>aC))) (~~~(ig (bz oT 0x0 T.b_isinstance nV (a8 6>=>(nr (v:=V.ty "bool") rfl T.b_bool Hw rfl)>=>aC)) (ig (cW ak (a8 6) (a8 4) (aN _)) (jv (cW (oM hr.units) (a8 5) (bQ (a8 0>=>a8 1>=>a8 2>=>aC)) (aN _))))))); ?_);let#[p,sp,mk,a,k,A_,ps_,fb,rg,v,w_,b,rfl,hps,hP,n0,n12,hE,hPl,nd,hT,hM,hv,hSp,ha,hf,h10,hnb,hnv,hO,hw,hR,hW,hS,hd1,hd2,hmp,hml,q]:=h;show#[_,(aH (pS 5 pQ.nd (bQ ((br jn 0x0 T.b_list iM (a8 0>=>aC))>=>(br jn 0x0 T.b_list iM (a8 1>=>aC))>=>(dg (N':=["_law_chain_here","_law_parts"]) (js:=[none,none]) (by kernel_rfl) rfl (di (a8 2)) (qa (jP (jP pB))) (λ_ _ _ _=>(show PG _ _ (m9 K 2 _) from dI (n:=2) rfl (bg (bD (i:=0) (show(["_law_chain_here","_law_parts"]:List Str).Nodup by decide +kernel) rfl 0x8 (.inr rfl)) (bg (bD (i:=1) (show(["_law_chain_here","_law_parts"]:List Str).Nodup by decide +kernel) rfl 0x8 (.inr rfl)) dL)))) (λ_ _ _ _=>dC) (λ_ _ _ _=>(aj (a8 0>=>(dg (N':=["_law_part"]) (js:=[none]) (by kernel_rfl) rfl (CT (λK=>wZ K _) rfl (di (a8 1))) dD (λ_ _ _ _=>(bD (i:=0) (show(["_law_part"]:List Str).Nodup by decide +kernel) rfl 0x8 (.inr rfl))) (λ_ _ _ _=>dC) (λ_ _ _ _=>(br (show bX _ (.type "list") (x8 K) from jn) 0x0 T.b_list iM (a8 0>=>aC))))>=>aC))))>=>aC))) hW1),?_];have lm:=Rk2.Ps.len hmp;show#[5,p,5,.inl hP,λl1 k1=>#[5,sp,5,.inl ((aA.new k1).seq hT.s),λl2 k2=>?_]];have s2:=(aA.new (o:=.lst (A_.fns.map λf=>V.ref f.fa)) k1)\(aA.new (o:=.lst A_.svs) k2);have e1:=aA.new (o:=.lst A_.svs) k2 _ _ (show upd H l1 (.lst (A_.fns.map λf=>V.ref f.fa)) l1=_ from aG);have e2:upd (upd H l1 (.lst (A_.fns.map λf=>V.ref f.fa))) l2 (.lst A_.svs) l2=_:=aG;generalize upd (upd H l1 (.lst (A_.fns.map λf=>V.ref f.fa))) l2 (.lst A_.svs)=H2 at s2 e1 e2 ⊢;show#[5,mk,rfl,#[_,s2.seq hT.m],λpL hpL=>iR (xs:=A_.mvs) (λi G v=>∃o,A_.mvs[i]?=⇑o/\gi K H G o v) (λi v G G' s z250_=>by let#[o,a,b]:=z250_; show#[o,a,b*>s]) ∅ (s2.seq hT.m) hpL ?_ ?_ (by intro _ _ _ _ h z; let#[p,ys,e1,e2,e3,y1,r1,e4,y2,r2,e5,e6,z]:=z; show#[p,ys,e1,e2,e3,y1,r1,e4,y2,r2,e5,e6,h _ _ z])]
   . rintro i x G R_ hx sG ⟨acc,eacc⟩ kk;let#[u,L,a1,a2,q0,c,w,ws,rfl,m1,m2,m3,m4]:=Rk2.Ps.at hmp (n:=i) (by have:=(JH.mp hx).1; lia);rw[hx] at a1;cases a1;have s0:aA H G:=s2\sG;show#[q0,5,aD.of (s0 _ _ m1),403,?_];have lw:=Rk2.Ps.len m4;show#[21,w,rfl,#[_,aE.of (s0 _ _ m3)],λpI hpI=>iR (xs:=ws) (λj G' v=>(∃o,ws[j]?=⇑o/\j4 K H G' o v)/\v≠↥pL) (λj v G G' s z251_=>by obtain⟨⟨o,a,b⟩,n⟩:=z251_; show#[#[o,a,b*>s],n]) ?_ (aE.of (s0 _ _ m3)) hpI ?_ ?_]
     . have:=(hT.l L (JM a2)).1;have e:(eR L).vs.length=L.length:=JE _
       lia
     . rintro j y G2 R2 hy sG2 ⟨acc2,eacc2⟩ kk2;let#[u2,vw,b1,b2,lo,us,rfl,c1,c2]:=Rk2.Ps.at m4 (n:=j) (by have:=(JH.mp hy).1; lia);rw[hy] at b1;cases b1;show#[5,lo,us,rfl,.inl (aE.of ((s0\sG2) _ _ c1)),λl hl=>kk2 _ _ (aA.new hl) #[#[_,hy,lo,us,l,rfl,c1,rfl,?_],?_]]
       . rw[bW (λz=>by rw[z,eacc2] at hl; cases hl)];exact aG
       . intro z;cases z;have:=sG2 _ _ eacc;rw[hl] at this;cases this
     . rintro G3 vs sG3 e3 l3 t3;show#[aZ,λbq hb=>kk _ _ (sG3\(aA.new hb)) #[_,hx,q0,c,w,ws,bq,pI,vs,rfl,m1,m3,rfl,?_,?_,?_]]
       . rw[bW (λz=>by have:=sG3 _ _ eacc; rw[z,this] at hb; cases hb)];exact aG
       . rw[bW (λz=>by rw[z,eacc] at hpI; cases hpI)];exact aA.new hb _ _ e3
       . refine Ps.of_at ∅ λj v o hv ho=>?_;obtain⟨⟨o',h1,lo,us,l,h2,h3,rfl,h4⟩,h5⟩:=t3 j v hv;rw[ho] at h1;cases h1;show#[lo,us,l,h2,h3,rfl,?_];rw[bW (λz=>h5 (by rw[z]))];exact aA.new hb _ _ (cZ _ _ h4)
   rintro G vs sG eG lG tG;have cps:Rk2.Ps (gi K H G) vs A_.mvs:=Ps.of_at lG λi v o hv ho=>by let#[o',h1,h2]:=tG i v hv;rw[ho] at h1;cases h1;exact h2*>cZ
   have s3:=s2\sG;show#[cn,λhh kh=>?_];have sn:=aA.new (o:=.lst [V.ref l1,V.ref l2,V.ref pL]) kh;have eh:upd G hh (.lst [V.ref l1,V.ref l2,V.ref pL]) hh=_:=aG;generalize upd G hh (.lst [V.ref l1,V.ref l2,V.ref pL])=H4 at sn eh ⊢;have s4:=s3\sn;have cps:=Rk2.Ps.imp (λ_ _ z=>z*>sn) cps;have e1:=(sG\sn) _ _ e1;have e2:=(sG\sn) _ _ e2;have eG:=sn _ _ eG;have hT4:=hT*>s4;show#[5,hh,35,aE.of eh,at0,5,hh,35,aE.of eh,13,hh,35,aE.of eh,13,l1,l2,pL,a,k,A_.mv vs,ps_,fb,rg,v,w_,b,rfl,hps,aE.of e1,n0,n12,λf hf=>(hE f hf)*>s4,hPl,nd,#[aE.of e2,hT4.ss,aE.of eG,ux s4 hmp cps,hT.l],hM,hv,hSp*>s4,s4<*ha,hf,h10,hnb,hnv,#[hO.l,hO.n,hO.g,hO.v],hw,s4<*hR,hW*>s4,(hS*>s4).mv vs,λH5 s5=>?_];have s05:=s4\s5;have ok3:∀L∈A_.Ms,∀e∈L,bx e.vw/\PyData.strOk e.F.name=true:=λL hL e he=>#[λo ho u eu=>(hO.v L hL e he u (eu ▸ ho)).1,hO.n _ ((hT.l L hL).2 e he).m]
   have tw:eM K H5 14 [V.ref l1,V.ref l2,V.ref pL] [V.ref p,V.ref sp,V.ref mk]:=.cons ((cu.lst (aE.of (s5 _ _ e1)) (s05.seq hP) (eM.of (bj.mono s05 hd1))).up #[]) (.cons ((cu.lst (aE.of (s5 _ _ e2)) (s05.seq hT.s) (eM.of (bj.mono s05 hd2))).up #[]) (.cons ((cu.lst (aE.of (s5 _ _ eG)) (s05.seq hT.m) (wY s05 ok3 hmp (Rk2.Ps.imp (λ_ _ z=>z*>s5) cps))).up #[]) .nil));show#[10,"bool",_,true,rfl,.bl _,rfl,?_];show#[5,aL rfl #[173,aL (JG rfl) #[341,cn,λy ky=>cu.eq (n:=15) ?_ #[] (q _)]]];let#[ds,ls,z1,z2]:=tw;have sy:=aA.new (o:=.lst [V.ref p,V.ref sp,V.ref mk]) ky;exact cu.lst (aE.of (sy _ _ (s5 _ _ eh))) (aE.of aG) #[ds,ls,bF.mono sy ds _ z1,bF.mono sy ds _ z2]
end
end K45
namespace Cb
open PySem L2 Gx Rk2 Bg Fl Wk St Br
def Cg {α:Type}:∀{l:List α},l.length=3->∃a b c,l=[a,b,c]
 | [a,b,c],_=>#[a,b,c,rfl]
structure Db5 (K:W.Frag) (H:Hp) (A:Ak) (F:Fx) (Vs0:List (List (Option Tr))) (vw:List (Option Tr)) (k:Int) (fs0:Fs) (G:F2.Fd) (r:Nat) (rg:RG) (on:Nat) (fb:Option Int) (kd:Str) (L:List Lev):Prop where
 nd:(A.fns.map (·.name)).Nodup
 sn:∀F∈A.fns,PyData.strOk F.name=true
 fm:∀G∈[F.a,F.b,F.c],G∈A.fns
 l0:A.L0=bp fs0 Vs0
 e:A.e=#[G,r,vw]
 o:Ok6 F (fs0++[(G,r)]) (Vs0++[vw])
 v9:ee vw
 nv:cQ vw
 vk:∀v∈Vs0++[vw],bx v
 ks:A.ks[on]?=⇑kd
 ms:A.Ms[on]?=⇑L
 mo:∀e∈L,LevOk A.fns e
 ac:Ac5 K H on k (decide (fs0=[])) A.as fb
variable {H:Hp} {fst:Bool}
def yA {K:Md} {n on:Nat} {k:Int} {as:List V} {fb:JK Int} (hn:10<=n) (h:Ac5 K H on k fst as fb):bj K H (n+1) as:=by
 have tr:∀{n t v},10<=n->Tr4 H t v->bH K H n v:=λ{n t v} hn a=>#[bL t,a.o.lay*>hn,dR a.r]
 have bv:∀{bv fb},Bv bv fb->bH K H (n+1) bv:=λ{bv fb} a=>by
   rcases a with⟨rfl,_⟩|⟨i,rfl,_⟩
   . exact .non
   . exact .int
 cases h with
 | go a=>exact .cons (.str 0x3) (.cons .int .nil)
 | out a b=>exact .cons (.str 0x3) (.cons (tr ∅ b) (.cons .int .nil))
 | wait a b=>exact .cons (.str 0x3) (.cons (bv b) (.cons .int .nil))
 | back a b c=>exact .cons (.str 0x3) (.cons (tr ∅ c) .nil)
 | call a b c d f =>
   refine .cons (.str 0x3) (.cons (.str b.2) (.cons (bH.tup (n:=n) c (bj.of λv hv=>?_)) (.cons .int .nil)));let#[i,hi]:=Jp hv;let#[u,t,e1,_,e3]:=Ps.at d (n:=i) (by have:=(JH.mp hi).1; have:=Ps.len d; lia);rw[hi] at e1;cases e1;exact tr ∅ e3
def FG {K:Md} {on:Nat} {k:Int} {as:List V} {fb:JK Int} (h:Ac5 K H on k fst as fb):lY as fb:=by
 cases h with
 | go a=>show#[9,.inl #[by decide +kernel,rfl]]
 | out a b=>show#[9,.inl #[by decide +kernel,rfl]]
 | wait a b=>show#[9,.inr #[25,b.imp_right λz252_=>by let#[i,x,y,_]:=z252_; show#[i,x,y]]]
 | back a b c=>show#[9,.inl #[by decide +kernel,rfl]]
 | call a b c d f=>show#[9,.inl #[by decide +kernel,rfl]]
def GO {K:Md} {ab:Mc} {t:Tr} {v:V} (h:Tr4 H t v):ff K ab H (.p ⇑t) v:=RB.of h.n h.r
def ut {K:Md} {ab:Mc} {H:Hp}:∀{us:List V} {ts:List Tr},Ps (Tr4 H) us ts->Ps (VB K ab H) us (ts.map some)
 | [],[],_=>trivial
 | _::_,_::_,h=>#[RB.of h.1.n h.1.r,ut h.2]
def vv {H:Hp}:∀{us:List V} {ts:List Tr},Ps (Tr4 H) us ts->∀o∈ts.map some,d9 o
 | [],[],_,_,h=>by cases h
 | _::_,t::ts,h,o,ho=>by
   rcases JT.mp ho with rfl|ho
   . exact d9.of h.1.o
   . exact vv h.2 o ho
def lS {c:C5} {cs:List C5} (h:dE c) (hs:∀c∈cs,dE c):∀d∈c::cs,dE d:=λd hd=>(JT.mp hd).elim (λe=>e ▸ h) (hs d)
def vc:∀c∈([]:List C5),dE c:=λc h=>by cases h
def pW {kd:Str} {X b:Bool} {k:Int} (h:¬ k=0) (e:b=(!decide (kd="wait")&&X)):(X&&(decide (kd="wait")==decide (k=0)))=b:=by rw[e,JP h];cases X <;> cases decide (kd="wait") <;> rfl
section
variable {K:Md} {ab:Mc} {H:Hp} {pl wl:Mc} {A:Ak} {F:Fx} {Vs0:List (List (JK Tr))} {vw:List (JK Tr)} {k:Int} {fs0 gs:Fs} {G:F2.Fd} {r:Nat} {rg:RG} {on:Nat} {fb:JK Int} {kd:Str} {L:List Lev} {Kn:List (List (JK Tr))} {ds:List C5} {s:Str} {b1:Bool}
def Db5.len (h:Db5 K H A F Vs0 vw k fs0 G r rg on fb kd L):Vs0.length=fs0.length/\vw.length=(F2.nms G).length:=by
 have l:=h.o.len;rw[JF,JF] at l;have l:Vs0.length=fs0.length:=↑l
 show#[l,h.o.at (i:=fs0.length) (x:=(G,r)) ?_ ?_]
 . rw[Jf (JN _),KG]; rfl
 . rw[Jf ∅,l,KG]; rfl
def Db5.lv (h:Db5 K H A F Vs0 vw k fs0 G r rg on fb kd L):A.L0.map Lev.lv=dM (fs0.map (·.1)) Vs0/\A.L0.map Lev.fr=fs0.map bY/\A.e.lv=lk (F2.nms G) vw:=by have l:=ka h.len.1;rw[h.l0,h.e];show#[l.2.2,l.1,rfl]
def oO {fs:Fs} {V0:List (List (JK Tr))} {x:F2.Fd×Nat} {v:List (JK Tr)} (h:V0.length=fs.length):dM ((fs++[x]).map (·.1)) (V0++[v])=dM (fs.map (·.1)) V0++[lk (F2.nms x.1) v]:=by unfold dM;rw[JL,List.zip_append (by rw[JE,h]),JL];rfl
def Db5.all (h:Db5 K H A F Vs0 vw k fs0 G r rg on fb kd L):(A.L0++[A.e]).map Lev.fr=(fs0++[(G,r)]).map bY/\A.fs=dM ((fs0++[(G,r)]).map (·.1)) (Vs0++[vw]):=by
 let#[a,b,c]:=h.lv;constructor
 . rw[JL,JL,b,h.e]; rfl
 . unfold Ak.fs;rw[JL,a,oO h.len.1];show _++[A.e.lv]=_;rw[c]
def Db5.onl (h:Db5 K H A F Vs0 vw k fs0 G r rg on fb kd L):on<A.Ms.length:=(JH.mp h.ms).1
def Db5.no {kd':Str} {rest:List V} (h:Db5 K H A F Vs0 vw k fs0 G r rg on fb kd L) (e:A.as=.str kd'::rest) (hw:¬ kd'="wait") (hg:¬ kd'="go") (hds:fC (lk (F2.nms G) vw) rg=⇑(.s s::ds)) (hdo:∀c∈(.s s::ds:List C5),dE c) (hn:¬ kd'=s):S5 K ab H A rg false :=
 .ne e hw hg (by rw[h.lv.2.2]; exact hds) hn (by rw[<- e]; exact yA (n:=19) #[] h.ac) hdo
def db5 (hP:Pg5 K H pl wl F) (h:Db5 K H A F Vs0 vw k fs0 G r rg on fb kd L) (hs:St5 K H F Vs0 vw k fs0 G r rg Kn gs) (hG:Ok6 F gs Kn) (hkn:∀kn∈Kn,bx kn) (hds:fC (lk (F2.nms G) vw) rg=⇑(.s s::ds)) (hdo:∀c∈(.s s::ds:List C5),dE c) (hsk:s=rg.kind) (hr:Rt5 K H k (decide (fs0=[])) (.s s::ds) A.as b1) (hne:¬ gs=[]) :
   S5 K ab H A rg (b1&&gG (bZ A.ps) L (gs.map bY) Kn&&(decide (kd="wait")==decide (k=0))):=by
 have hL:=J1 h.nd h.ks h.ms h.mo hG h.fm;have hlo:=BJ h.nd h.sn hG h.fm hkn;let#[lv0,fr0,lve]:=h.lv;let#[fra,fsa]:=h.all;have onl:=h.onl;have hac:=h.ac;have no:=@Db5.no K ab H A F Vs0 vw k fs0 G r rg on fb kd L ds s;have out:∀{v:V},rg.kind="call"\/rg.kind="back"->A.as=[.str "out",v,.int (on:Int)]->S5 K ab H A rg false:=λhk e=>no h e 0x3 0x3 hds hdo (by rw[hsk]; rcases hk with z|z <;> (rw[z]; decide +kernel));generalize has:A.as=as5 at hr hac;cases hs with
 | k0 _ =>
   cases hac with
   | go a=>exact absurd a #[]
   | wait a b=>exact absurd a #[]
   | back a b c=>exact absurd a #[]
   | out a b =>
     have e1:b1=false:=by
       cases hr with
       | t4 z=>exact absurd z #[]
       | go z _=>rcases z with z|⟨z|z,_⟩ <;> exact absurd z #[]
       | nb z _ _ _=>exact absurd z #[]
       | bk z _ _ _=>exact absurd z #[]
       | nc _ _ _=>rfl
       | ca _ e _ _ _ _=>exact absurd (V.str.inj (List.cons.inj e).1) 0x3
     rw[e1];exact out (.inl rfl) has
   | @call g q us ts _ hg hq hts lts =>
     cases hr with
     | t4 z=>exact absurd z #[]
     | go z _=>rcases z with z|⟨z|z,_⟩ <;> exact absurd z #[]
     | nb z _ _ _=>exact absurd z #[]
     | bk z _ _ _=>exact absurd z #[]
     | nc _ e n=>exact absurd (V.str.inj (List.cons.inj e).1).symm n
     | @ca g2 q2 us2 ts2 on2 _ e hg2 hq2 hts2 lts2 =>
       have e2:g2=g/\q2=q/\(on2:Int)=(on:Int):=by simp only[List.cons.injEq,V.str.injEq,V.ref.injEq,V.int.injEq,and_true,true_and] at e;show#[e.1.symm,e.2.1.symm,e.2.2.symm]
       obtain⟨rfl,rfl,-⟩:=e2;have hS:=S5.ca (K:=K) (ab:=ab) (H:=H) (A:=A) (rg:=.call F.y F.o.name F.p F.as) (cs:=[.s "call",.s g2,.t (ts2.map some)]) (ds:=.s s::ds) (v:=↥q2) has rfl (by rw[lve]; exact hds) #[7,#[q2,us2,rfl,hq2,ut hts2],trivial] (lS (show PyData.strOk "call"=true by decide +kernel) (lS hg2.2 (lS (c:=.t (ts2.map some)) (vv hts2) vc))) hdo onl (by rw[fra,fsa]; exact hlo);rw[fra,fsa,hL.2] at hS;have e3:∀(b X:Bool),(b&&(decide (kd="wait")&&X))=(b&&X&&(decide (kd="wait")==decide ((0:Int)=0))):=λb X=>by rw[JG (rfl:(0:Int)=0)];cases b <;> cases X <;> cases decide (kd="wait") <;> rfl
       rw[e3] at hS;exact hS
 | @k1 _ os _ h1 h2 =>
   cases hac with
   | wait a b=>exact absurd a #[]
   | back a b c=>exact absurd a #[]
   | call a _ _ _ _=>exact absurd a #[]
   | out a b =>
     have e1:b1=false:=by
       cases hr with
       | t4 z=>exact absurd z #[]
       | go z e=>rw[<- V.str.inj (List.cons.inj e).1]; exact JP 0x3
       | nb z _ _ _=>exact absurd z #[]
       | bk z _ _ _=>exact absurd z #[]
       | nc _ _ _=>rfl
       | ca z e _ _ _ _=>exact absurd z #[]
     rw[e1];exact out (.inl rfl) has
   | go a =>
     have e1:b1=true:=by
       cases hr with
       | t4 z=>exact absurd z #[]
       | go z e=>rw[<- V.str.inj (List.cons.inj e).1]; exact JG rfl
       | nb z _ _ _=>exact absurd z #[]
       | bk z _ _ _=>exact absurd z #[]
       | nc z _ _=>exact absurd z #[]
       | ca z e _ _ _ _=>exact absurd z #[]
     let#[el,t,ht]:=hP.ps;have ok:=hP.ok F.o hP.fo;have een:iC (F2.nms F.o) F.o.ps A.e.lv F.as=lk (F2.nms F.o) (eX os (F2.nms F.o).length):=by rw[lve,ht];exact HL (by rw[<- ht]; exact qO _) el h1
     have c1:(A.L0++[A.e]).map Lev.fr++[(F.o.name,0)]=(fs0++[(F.b,F.rb)]++[(F.o,0)]).map bY:=by rw[fra,JL (l₂:=[(F.o,0)])]; rfl
     have c2:A.fs++[iC (F2.nms F.o) F.o.ps A.e.lv F.as]=dM ((fs0++[(F.b,F.rb)]++[(F.o,0)]).map (λx:F2.Fd×Nat=>x.1)) (Vs0++[vw]++[eX os (F2.nms F.o).length]):=by rw[fsa,een,oO (fs:=fs0++[(F.b,F.rb)]) (V0:=Vs0++[vw]) (by rw[JF,JF,h.len.1]; rfl)]
     have hS:=S5.ent (K:=K) (ab:=ab) (H:=H) (A:=A) (rg:=.call F.y F.o.name F.p F.as) (F:=F.o) has onl rfl (h.fm _ hP.fo) rfl (Jj ok.2.2.2.1 #[]) (Jj ok.2.2.2.2 #[]) (by rw[lve]; exact h1) (by rw[c1,c2]; exact hlo);rw[c1,c2] at hS;rw[e1,K3,pW #[] hL.1];exact hS
 | k4 _ =>
   cases hac with
   | go a=>exact absurd a #[]
   | back a b c=>exact absurd a #[]
   | call a _ _ _ _=>exact absurd a #[]
   | out a b=>rcases a with a|a|⟨a|a,_⟩ <;> exact absurd a #[]
   | wait a b =>
     have e1:b1=true:=by
       cases hr with
       | t4 z=>rfl
       | go z e=>rcases z with z|⟨z|z,_⟩ <;> exact absurd z #[]
       | nb z _ _ _=>exact absurd z #[]
       | bk z _ _ _=>exact absurd z #[]
       | nc z _ _=>exact absurd z #[]
       | ca z e _ _ _ _=>exact absurd z #[]
     have c1:A.at (F.rb+1)=(fs0++[(F.b,F.rb+1)]).map bY:=by unfold Ak.at; rw[fr0,h.e,JL]; rfl
     have c2:A.give F.y ⇑(.box (-1))=dM ((fs0++[(F.b,F.rb+1)]).map (λx:F2.Fd×Nat=>x.1)) (Vs0++[vw.set ((F2.nms F.b).idxOf F.y) ⇑(.box (-1))]):=by unfold Ak.give;rw[oO h.len.1,lv0,lve,qy hP.cb.y h.len.2]
     have hS:=S5.wt (K:=K) (ab:=ab) (H:=H) (A:=A) (rg:=.call F.y F.o.name F.p F.as) (to_:=F.rb+1) has onl rfl (by rw[h.e]; show#[_,hP.cb.w,rfl]) (by rw[c1,c2]; exact hlo);rw[c1,c2] at hS;rw[e1,K3,pW #[] hL.1];exact hS
 | one hb=>exact absurd rfl hne
 | @two _ at_ _ r1 _ G1 f1 y g p as V1 v1 o hk hb hc eV h1 h2 =>
   subst eV;have nf:decide (f1++[(G1,r1)]=([]:Fs))=false:=JP 0x6;rw[nf] at hr;cases hac with
   | wait a b=>rcases hk with rfl|rfl <;> exact absurd a #[]
   | back a b c=>rw[nf] at b; cases b
   | call a _ _ _ _=>rcases hk with rfl|rfl <;> exact absurd a #[]
   | out a b =>
     have e1:b1=false:=by
       cases hr with
       | t4 z=>rcases hk with rfl|rfl <;> exact absurd z #[]
       | go z e=>rw[<- V.str.inj (List.cons.inj e).1]; exact JP 0x3
       | nb _ z _ _=>cases z
       | bk _ z _ _=>cases z
       | nc _ _ _=>rfl
       | ca z e _ _ _ _=>rcases hk with rfl|rfl <;> exact absurd z #[]
     rw[e1];exact out (.inr rfl) has
   | go a =>
     have e1:b1=true:=by
       cases hr with
       | t4 z=>rfl
       | go z e=>rw[<- V.str.inj (List.cons.inj e).1]; exact JG rfl
       | nb _ z _ _=>cases z
       | bk _ z _ _=>cases z
       | nc z _ _=>rcases hk with rfl|rfl <;> exact absurd z #[]
       | ca z e _ _ _ _=>rcases hk with rfl|rfl <;> exact absurd z #[]
     have ok1:=mj h.o;have l1:=ok1.len;have l1:V1.length=f1.length:=by rw[JF,JF] at l1; simpa using l1
     have lv1:v1.length=(F2.nms G1).length:=ok1.at (i:=f1.length) (x:=(G1,r1)) (by rw[Jf (JN _),KG]; rfl) (by rw[Jf ∅,l1,KG]; rfl);have el0:A.L0=bp f1 V1++[⟨G1,r1,v1⟩]:=by rw[h.l0,xm l1]
     let#[c,hc1,_,hc2]:=hc.c;have l5:=ka l1;have c1:(bp f1 V1).map Lev.fr++[((⟨G1,r1,v1⟩:Lev).F.name,r1+1)]=(f1++[(G1,r1+1)]).map bY:=by rw[l5.1,JL]; rfl
     have c2:(bp f1 V1).map Lev.lv++[dq (Lev.lv ⟨G1,r1,v1⟩) y o]=dM ((f1++[(G1,r1+1)]).map (λx:F2.Fd×Nat=>x.1)) (V1++[v1.set ((F2.nms G1).idxOf y) o]):=by rw[oO l1,l5.2.2,qy hc.y lv1];rfl
     have hS:=S5.lev (K:=K) (ab:=ab) (H:=H) (A:=A) (rg:=.back at_) (as:=as) (to_:=r1+1) (L1:=bp f1 V1) (e1:=#[G1,r1,v1]) has onl rfl el0 hc1 hc2 (by rw[lve]; exact h1) #[_,hc.w,rfl] (by rw[c1,c2]; exact hlo);rw[c1,c2] at hS;rw[e1,K3,pW (by rcases hk with rfl|rfl <;> decide) hL.1];exact hS
def HB (h:Db5 K H A F Vs0 vw k fs0 G r rg on fb kd L) (hs:St5 K H F Vs0 vw k fs0 G r rg Kn []) (hds:fC (lk (F2.nms G) vw) rg=⇑(.s s::ds)) (hdo:∀c∈(.s s::ds:List C5),dE c) (hr:Rt5 K H k (decide (fs0=[])) (.s s::ds) A.as b1):S5 K ab H A rg b1:=by
 have onl:=h.onl;have hac:=h.ac;let#[lv0,fr0,lve]:=h.lv;have l0:=h.l0;generalize hg:([]:Fs)=gs at hs;generalize has:A.as=as5 at hr hac;cases hs with
 | k0 _=>simp at hg
 | k1 _ _ _=>simp at hg
 | k4 _=>simp at hg
 | two _ _ _ _ _ _=>simp at hg
 | one hb =>
   rw[JG rfl] at hr hac;cases hr with
   | t4 z=>exact absurd z #[]
   | go z e =>
     rcases z with z|⟨_,z⟩
     . exact absurd z #[]
     . cases z
   | nc z _ _=>exact absurd z #[]
   | ca z _ _ _ _ _=>exact absurd z #[]
   | nb _ _ e n =>
     cases hac with
     | wait a b=>exact absurd a #[]
     | back a b c=>exact absurd (V.str.inj (List.cons.inj e).1).symm n
     | call a _ _ _ _=>exact absurd a #[]
     | out a b=>rcases a with a|a|⟨_,a⟩ <;> cases a
     | go a=>exact .gb has onl rfl l0
   | bk _ _ e ht =>
     subst e;exact .bk has rfl l0 (by rw[lve]; exact hds) #[rfl,GO ht,trivial] (lS (show PyData.strOk "back"=true by decide +kernel) (lS (c:=.p _) (d9.of ht.o) vc)) hdo
def tj {z:Mc} {l:List V} {t:Tr} {v:V} (hz:H z=⇑(.lst l)) (h:Tr4 H t v):Tr4 (ers z H) t v:=#[show aO _ ⇑t v from jp hz h.r,h.o,h.n]
def Rt5.er {z:Mc} {l:List V} {ds:List C5} {as:List V} {b:Bool} (hz:H z=⇑(.lst l)) (h:Rt5 K H k fst ds as b):Rt5 K (ers z H) k fst ds as b:=by
 cases h with
 | t4 a=>exact .t4 a
 | go a b=>exact .go a b
 | nb a b c d=>exact .nb a b c d
 | bk a b c d=>exact .bk a b c (tj hz d)
 | nc a b c=>exact .nc a b c
 | ca a b c d e f=>exact .ca a b c (iZ hz d) (Ps.imp (λ_ _ y=>tj hz y) e) f
def Rt5.mono {H':Hp} {fst:Bool} {ds:List C5} {as:List V} {b:Bool} (s:aA H H') (h:Rt5 K H k fst ds as b):Rt5 K H' k fst ds as b:=by
 cases h with
 | t4 a=>exact .t4 a
 | go a b=>exact .go a b
 | nb a b c d=>exact .nb a b c d
 | bk a b c d=>exact .bk a b c (d*>s)
 | nc a b c=>exact .nc a b c
 | ca a b c d e f=>exact .ca a b c (s<*d) (Ps.imp (λ_ _ y=>y*>s) e) f
end
def DK {tt:TT} {A B:TS} {D:cU} {σ:L2.St} (ht:∀Q:Bool->Hp->Prop,Q true H->tt σ H Q) (h:A D σ H):wO tt A B D σ H:=ht _ (by show if true=true then A D σ H else B D σ H; rw[JR rfl]; exact h)
def C7 (a b:Bool):decide (V.bl a=V.bl b)=(a==b):=by cases a <;> cases b <;> rfl
def GJ (kd:Str) (k:Int):decide (V.bl (decide (V.str kd=V.str "wait"))=V.bl (decide (V.int k=V.int 0)))=(decide (kd="wait")==decide (k=0)):=by rw[C7,show decide (V.str kd=V.str "wait")=decide (kd="wait") from decide_eq_decide.mpr #[λz=>V.str.inj z,λz=>by rw[z]],show decide (V.int k=V.int 0)=decide (k=0) from decide_eq_decide.mpr #[λz=>V.int.inj z,λz=>by rw[z]]]
end Cb
namespace K45
open PySem L2 Gx Fl Bg Wk St Br Cb
section
variable {P:Program} {w:World} {K:Md} {mg:Str->JK Ma} {base:Heap} {t:Adr}
def cE:FnScope ["_law_script","_law_cells","_law_words","_law_own","_law_program_here","_law_names_here","_law_kind","_law_deep","_law_calm","_law_k","_law_on","_law_boxes","_law_chain_here","_law_told","_law_views","_law_known","_law_row_here","_law_first","_law_act_here","_law_sets_here","_law_news_here","_law_spots","_law_size","_law_marks","_law_due","_law_goal","_law_there"] ["_law_script"] (az g7):=by walk_at "s"
def ok_law (T:Txt K mg t):FnOk P w K mg base CX0 21 t.yu t.oZ ["_law_script"] (sp_law K):=by
 have Qf:=xO (P:=P) (w:=w) (base:=base) T;have QM:=Ik (P:=P) (w:=w) (base:=base) T;have QN:=Ci (P:=P) (w:=w) (base:=base) T;have QO:=B0 (P:=P) (w:=w) (base:=base) T;have Qc:=oy (P:=P) (w:=w) (base:=base) T;have QP:=DX (P:=P) (w:=w) (base:=base) T;have QQ:=J3 (P:=P) (w:=w) (base:=base) T;have Qr:=J6 (P:=P) (w:=w) (base:=base) T;have QR:=A' (P:=P) (w:=w) (base:=base) T;have QS:=Hb (P:=P) (w:=w) (base:=base) T;have QT:=HV (P:=P) (w:=w) (base:=base) T;have QU:=Bi (P:=P) (w:=w) (base:=base) T;have QV:=Ir (P:=P) (w:=w) (base:=base) T;have QW:=C9 (P:=P) (w:=w) (base:=base) T;have QX:=Cu (P:=P) (w:=w) (base:=base) T;have QY:=DN (P:=P) (w:=w) (base:=base) T;have QZ:=An (P:=P) (w:=w) (base:=base) T;have Q0:=Il (P:=P) (w:=w) (base:=base) T;refine T.law.F.ok cE (λvs H Q E h=>?_) (λcdv A outer s H vs Q E hr h=>?_)
 . let#[_,_,rfl,_]:=h;rfl
 . skip
   refine lx ?_;intro XX;refine(let W25:TS:=_; have hW25:aY XX ((aV g7).drop 25) W25:=(@aH _ _ _ _ _ (fJ (@aj _ _ _ _ _ (@aP _ _ _ _ _ (a8 19) (@aP _ _ _ _ _ (a8 18) aC 0x0) 0x0)) (gO (a8 21) (a8 9) gN)) (@aH _ _ _ _ _ (fJ (@aj _ _ _ _ _ (@aP _ _ _ _ _ (br fX 0x0 T.b_tuple fS (@aP _ _ _ _ _ (a8 12) aC 0x0)) (@aP _ _ _ _ _ (a8 14) aC 0x0) 0x0)) (gO (a8 23) (a8 9) gN)) (~~~(cD T.AD QS hr (@aP _ _ _ _ _ (cD T.AO QY hr (@aP _ _ _ _ _ (a8 4) (@aP _ _ _ _ _ (iL K (a8 1)) aC 0x0) 0x0)) (@aP _ _ _ _ _ (a8 21) (@aP _ _ _ _ _ (a8 23) (@aP _ _ _ _ _ (a8 9) (@aP _ _ _ _ _ (a8 24) aC 0x0) 0x0) 0x0) 0x0) 0x0))))); ?_);refine(let W23:TS:=_; have hW23:aY XX ((aV g7).drop 23) W23:=(@aH _ _ _ _ _ (pS 24 cE.nd (cD T.AM QR hr (@aP _ _ _ _ _ (a8 16) (@aP _ _ _ _ _ (iY K (a8 13) (bO bP aF)) (@aP _ _ _ _ _ (iY K (a8 14) (bO bP aF)) (@aP _ _ _ _ _ (a8 6) (@aP _ _ _ _ _ (a8 17) (@aP _ _ _ _ _ (a8 18) aC 0x0) 0x0) 0x0) 0x0) 0x0) 0x0))) (@d8 _ _ _ _ _ (@ai _ _ _ _ _ _ _ _ (@PW.pt _ _ _ (fR (@aS _ _ _ _ _ _ _ _ mB (a8 6) aF (aN _)) (gC (lT (jE (a8 17)))))) (@aH _ _ _ _ _ (pS 25 cE.nd (cD T.AK QW hr (@aP _ _ _ _ _ (a8 12) (@aP _ _ _ _ _ (a8 6) (@aP _ _ _ _ _ (iY K (a8 2) (a8 3)) aC 0x0) 0x0) 0x0))) (@aH _ _ _ _ _ (fJ (cD T.AC QX hr (@aP _ _ _ _ _ (a8 4) (@aP _ _ _ _ _ (iL K (a8 1)) (@aP _ _ _ _ _ (a8 25) (@aP _ _ _ _ _ (a8 6) (@aP _ _ _ _ _ (a8 8) aC 0x0) 0x0) 0x0) 0x0) 0x0)) (dI rfl (bg (gO (a8 21) (a8 10) gN) (bg (bD (i:=26) cE.nd rfl 0x8) dL)))) (@aH _ _ _ _ _ (fJ (@aj _ _ _ _ _ (@aP _ _ _ _ _ (a8 26) (@aP _ _ _ _ _ (dg (N':=["_law_j","_law_news_here","_law_boxes","_law_calm","_law_cells","_law_known"]) (js:=[none,some 20,some 11,some 8,some 1,some 15]) (by kernel_rfl) rfl (fO rfl T.b_range (@aP _ _ _ _ _ (bz 0x1 0x0 T.b_len cL (@aP _ _ _ _ _ (a8 15) aC 0x0)) aC 0x0)) dD (λ_ _ _ _=>(bD (i:=0) (show(["_law_j","_law_news_here","_law_boxes","_law_calm","_law_cells","_law_known"]:List Str).Nodup by decide +kernel) rfl 0x8 (.inr rfl))) (λ_ _ _ _=>dC) (λ_ _ _ _=>(cD T.AJ Q0 hr (@aP _ _ _ _ _ (iY K (a8 4) (bN cM<$>aF<*>a8 0)) (@aP _ _ _ _ _ (iY K (a8 5) (a8 0)) (@aP _ _ _ _ _ (a8 1) (@aP _ _ _ _ _ (a8 2) (@aP _ _ _ _ _ (a8 3) aC 0x0) 0x0) 0x0) 0x0) 0x0)))) aC 0x0) 0x0)) (gO (a8 23) (a8 10) gN)) (@aH _ _ _ _ _ (pS 24 cE.nd (ig (a8 24) (jv (cD T.AI QZ hr (@aP _ _ _ _ _ (iY K (a8 23) (a8 10)) (@aP _ _ _ _ _ (br fX 0x0 T.b_tuple fS (@aP _ _ _ _ _ (a8 25) aC 0x0)) (@aP _ _ _ _ _ (a8 15) (@aP _ _ _ _ _ (a8 20) aC 0x0) 0x0) 0x0) 0x0))))) (@aK _ _ _ (pS 24 cE.nd (ig (a8 24) (jv (cW ak (cW ak (iT K (iT K (iY K (a8 21) (a8 10)))) aU (aN _)) (cW ak (a8 6) aF (aN _)) (aN _)))))))))) ag) hW25)); ?_);refine(let W19:TS:=_; have hW19:aY XX ((aV g7).drop 19) W19:=(@d8 _ _ _ _ _ (@ai _ _ _ _ _ _ _ _ (@aS _ _ _ _ _ _ _ _ ak (a8 6) aF (aN _)) (@aK _ _ _ (pS 20 cE.nd (cD T.t8 Qr hr (@aP _ _ _ _ _ (a8 19) (@aP _ _ _ _ _ (iT K (a8 18)) aC 0x0) 0x0)))) ag) (@d8 _ _ _ _ _ (pS 21 cE.nd (jo<$>(@bQ _ _ _ _ (@aP _ _ _ _ _ (@aj _ _ _ _ _ (@aP _ _ _ _ _ (@bQ _ _ _ _ aC) (@aP _ _ _ _ _ (@aj _ _ _ _ _ (@aP _ _ _ _ _ aU (@aP _ _ _ _ _ (@aj _ _ _ _ _ (@aP _ _ _ _ _ aU (@aP _ _ _ _ _ aF aC 0x0) 0x0)) aC 0x0) 0x0)) aC 0x0) 0x0)) aC 0x0))<*>aF)) (@aH _ _ _ _ _ (pS 22 cE.nd (bz 0x1 0x0 T.b_len cL (@aP _ _ _ _ _ (iL K (a8 13)) aC 0x0))) (@d8 _ _ _ _ _ (ji (i:=23) cE.nd rfl 0x8 (N':=["_law_spot","_law_size","_law_chain_here"]) (js:=[none,some 22,some 12]) (by kernel_rfl) rfl (di (a8 21)) dD (λ_ _ _ _=>(bD (i:=0) (show(["_law_spot","_law_size","_law_chain_here"]:List Str).Nodup by decide +kernel) rfl 0x8 (.inr rfl))) (λ_ _ _ _=>dC) (λ_ _ _ _=>(@aj _ _ _ _ _ (@aP _ _ _ _ _ (@aj _ _ _ _ _ (@aP _ _ _ _ _ (@aj _ _ _ _ _ (@aP _ _ _ _ _ (iT K (iL K (a8 2))) (@aP _ _ _ _ _ aF aC 0x0) 0x0)) aC 0x0)) (@aP _ _ _ _ _ (@bQ _ _ _ _ (@aP _ _ _ _ _ (jo<$>(@bQ _ _ _ _ (@aP _ _ _ _ _ fi aC 0x0))<*>a8 1) aC 0x0)) aC 0x0) 0x0))) 0x0) hW23)))); ?_);refine(let W16:TS:=_; have hW16:aY XX ((aV g7).drop 16) W16:=(@aH _ _ _ _ _ (pS 18 cE.nd (cD T.AB QP hr (@aP _ _ _ _ _ (a8 16) (@aP _ _ _ _ _ (iY K (a8 13) (bO bP aF)) (@aP _ _ _ _ _ (iY K (a8 14) (bO bP aF)) (@aP _ _ _ _ _ (a8 6) (@aP _ _ _ _ _ (a8 17) (@aP _ _ _ _ _ (@bQ _ _ _ _ (@aP _ _ _ _ _ (bN cM<$>(aM eN<$>(iL K (a8 1))<*>(bN i4<$>aF<*>a8 8))<*>aF) (@aP _ _ _ _ _ (iL K (a8 1)) aC 0x0) 0x0)) (@aP _ _ _ _ _ (a8 2) (@aP _ _ _ _ _ (a8 11) (@aP _ _ _ _ _ (a8 10) aC 0x0) 0x0) 0x0) 0x0) 0x0) 0x0) 0x0) 0x0) 0x0))) (@aH _ _ _ _ _ (pS 19 cE.nd (cD T.AN QQ hr (@aP _ _ _ _ _ (iL K (a8 1)) (@aP _ _ _ _ _ (cD T.AH QV hr (@aP _ _ _ _ _ (a8 15) aC 0x0)) (@aP _ _ _ _ _ (a8 11) aC 0x0) 0x0) 0x0))) (@aH _ _ _ _ _ (pS 20 cE.nd (cD T.t8 Qr hr (@aP _ _ _ _ _ (a8 19) (@aP _ _ _ _ _ fi aC 0x0) 0x0))) hW19))); ?_);refine(let W13:TS:=_; have hW13:aY XX ((aV g7).drop 13) W13:=(@aH _ _ _ _ _ (pS 15 cE.nd (cD T.AE QO hr (@aP _ _ _ _ _ (a8 4) (@aP _ _ _ _ _ (a8 5) (@aP _ _ _ _ _ (a8 2) (@aP _ _ _ _ _ (a8 12) (@aP _ _ _ _ _ (a8 6) (@aP _ _ _ _ _ (a8 14) aC 0x0) 0x0) 0x0) 0x0) 0x0) 0x0))) (@aH _ _ _ _ _ (pS 16 cE.nd (cD T.kC Qc hr (@aP _ _ _ _ _ (a8 4) (@aP _ _ _ _ _ (iY K (a8 12) (bO bP aF)) aC 0x0) 0x0))) (@aH _ _ _ _ _ (pS 17 cE.nd (cW ak (bz 0x1 0x0 T.b_len cL (@aP _ _ _ _ _ (a8 12) aC 0x0)) aF (aN _))) hW16))); ?_);refine(let W10:TS:=_; have hW10:aY XX ((aV g7).drop 10) W10:=(@aH _ _ _ _ _ (pS 12 cE.nd (cD T.AG QN hr (@aP _ _ _ _ _ (a8 4) (@aP _ _ _ _ _ (a8 2) (@aP _ _ _ _ _ (a8 6) (@aP _ _ _ _ _ (a8 7) (@aP _ _ _ _ _ (a8 3) aC 0x0) 0x0) 0x0) 0x0) 0x0))) (@aH _ _ _ _ _ (pS 13 cE.nd (dg (N':=["_law_frame","_law_names_here","_law_words"]) (js:=[none,some 5,some 2]) (by kernel_rfl) rfl (di (a8 12)) dD (λ_ _ _ _=>(bD (i:=0) (show(["_law_frame","_law_names_here","_law_words"]:List Str).Nodup by decide +kernel) rfl 0x8 (.inr rfl))) (λ_ _ _ _=>dC) (λ_ _ _ _=>(iY K (a8 1) (show PE _ _ (qS K "list" _ _ _) from(cq Jc KQ KR (show jd _ "list.index" (qN K) from jH) (a8 2) (aP (dj (show fE _ (kH K) from mS) (a8 0) aF (λ_ _=>rfl)) aC))))))) (@aH _ _ _ _ _ (ji (i:=14) cE.nd rfl 0x8 (N':=["_law_j","_law_boxes","_law_calm","_law_cells","_law_told"]) (js:=[none,some 11,some 8,some 1,some 13]) (by kernel_rfl) rfl (fO rfl T.b_range (@aP _ _ _ _ _ (bz 0x1 0x0 T.b_len cL (@aP _ _ _ _ _ (a8 12) aC 0x0)) aC 0x0)) dD (λ_ _ _ _=>(bD (i:=0) (show(["_law_j","_law_boxes","_law_calm","_law_cells","_law_told"]:List Str).Nodup by decide +kernel) rfl 0x8 (.inr rfl))) (λ_ _ _ _=>dC) (λ_ _ _ _=>(cD T.AR QU hr (@aP _ _ _ _ _ (iY K (a8 3) (bN cM<$>aF<*>a8 0)) (@aP _ _ _ _ _ (bz 0x1 0x0 T.b_len cL (@aP _ _ _ _ _ (iY K (a8 4) (a8 0)) aC 0x0)) (@aP _ _ _ _ _ (a8 1) (@aP _ _ _ _ _ (a8 2) aC 0x0) 0x0) 0x0) 0x0))) 0x0) hW13))); ?_);refine(let W7:TS:=_; have hW7:aY XX ((aV g7).drop 7) W7:=(@aH _ _ _ _ _ (pS 9 cE.nd (aM bE<$>(aM bc<$>(iL K (a8 1))<*>aF)<*>aF)) (@aH _ _ _ _ _ (pS 10 cE.nd (aM bE<$>(bN cM<$>(bN cM<$>a8 9<*>aF)<*>(aM bE<$>(aM bc<$>(iL K (a8 1))<*>aF)<*>aF))<*>aF)) (@aH _ _ _ _ _ (pS 11 cE.nd (@bQ _ _ _ _ (@aP _ _ _ _ _ aF (@aP _ _ _ _ _ aF (@aP _ _ _ _ _ aF (@aP _ _ _ _ _ aF (@aP _ _ _ _ _ aF (@aP _ _ _ _ _ aF (@aP _ _ _ _ _ (bN cM<$>aF<*>(aM bE<$>(iL K (a8 1))<*>aF)) (@aP _ _ _ _ _ (bN cM<$>aF<*>(aM bE<$>(aM bc<$>(iL K (a8 1))<*>aF)<*>aF)) aC 0x0) 0x0) 0x0) 0x0) 0x0) 0x0) 0x0) 0x0))) hW10))); ?_);refine(let W4:TS:=_; have hW4:aY XX ((aV g7).drop 4) W4:=(@aH _ _ _ _ _ (pS 6 cE.nd (aM bE<$>(iL K (a8 1))<*>aF)) (@aH _ _ _ _ _ (pS 7 cE.nd (cW ak (aM bE<$>(aM bc<$>(iL K (a8 1))<*>aF)<*>aF) aF (aN _))) (@aH _ _ _ _ _ (pS 8 cE.nd (aM bE<$>(aM bc<$>(iL K (a8 1))<*>aF)<*>aF)) hW7))); ?_);let#[a,ns,rfl,hS,hL,q]:=h;show#[_,(@aH _ _ _ _ _ (pS 1 cE.nd (dg (N':=["_law_k","_law_script"]) (js:=[none,some 0]) (by kernel_rfl) rfl (fO rfl T.b_range (@aP _ _ _ _ _ aF aC 0x0)) dD (λ_ _ _ _=>(bD (i:=0) (show(["_law_k","_law_script"]:List Str).Nodup by decide +kernel) rfl 0x8 (.inr rfl))) (λ_ _ _ _=>dC) (λ_ _ _ _=>(cD T.AF QT hr (@aP _ _ _ _ _ (a8 1) (@aP _ _ _ _ _ (a8 0) aC 0x0) 0x0))))) (@aH _ _ _ _ _ (pS 2 cE.nd (cD T.mM Qf hr (@aP _ _ _ _ _ (iL K (a8 1)) (@aP _ _ _ _ _ aF aC 0x0) 0x0))) (@aH _ _ _ _ _ (pS 3 cE.nd (br gz 0x0 T.b_int gw (@aP _ _ _ _ _ (cW ak (aM bE<$>(aM bc<$>(iL K (a8 1))<*>aF)<*>aF) aF (aN _)) aC 0x0))) (@aH _ _ _ _ _ (fJ (cD T.AL QM hr (@aP _ _ _ _ _ (a8 1) (@aP _ _ _ _ _ (a8 2) (@aP _ _ _ _ _ (a8 3) aC 0x0) 0x0) 0x0)) (dI rfl (bg (bD (i:=4) cE.nd rfl 0x8) (bg (bD (i:=5) cE.nd rfl (Or.inr rfl)) dL)))) hW4)))),?_];refine ly ?_; intro sg;show#[5,#[],#[],λcl hcl=>(let Jv1:Nat->List V->Hp->Prop:=λi acc H2=>aA H H2/\H2 cl=⇑(.lst acc)/\∃zs:List Int,acc=zs.map V.int/\zs.length=i; oz (lo:=0) (n:=24) #[] Jv1 #[aA.new hcl,aG,[],7] ?_ ?_ ?_)]
   . rintro i acc H2 hi ⟨s2,e2,zs,rfl,lz⟩;show#[e2,by rw[JE,lz]; exact JN _]
   . rintro i acc H2 hi ⟨s2,e2,zs,rfl,lz⟩;show#[21,a,ns,5,s2.seq hS,hL,∅,λz=>#[e2,s2.upd hcl,aG,zs++[z],?_,by rw[JF,lz]; rfl]];rw[JL];rfl
   rintro acc H1 ⟨-,e_cl,cs,rfl,c24⟩;let#[z10,hz10]:=cx (cs:=cs) (j:=10) ∅;let#[z11,hz11]:=cx (cs:=cs) (j:=11) ∅;let#[z12,hz12]:=cx (cs:=cs) (j:=12) ∅;let#[z16,hz16]:=cx (cs:=cs) (j:=16) ∅;let#[z17,hz17]:=cx (cs:=cs) (j:=17) ∅;let#[z18,hz18]:=cx (cs:=cs) (j:=18) ∅;let#[z22,hz22]:=cx (cs:=cs) (j:=22) ∅;let#[z23,hz23]:=cx (cs:=cs) (j:=23) ∅;have F:=(Al.nil (H:=H1)).add e_cl;show#[5,cl,35,aE.of F.2.1,hz10,z10,(3),rfl,#[],λww l3 wwd wwm wl H2 sn hwl e_wl=>?_];have F:=F.mono sn; have F:=F.re; have F:=F.add e_wl
   let#[w0,w1,w2,rfl]:=Cg l3;obtain⟨own,hown,own2⟩:∃own:Nat,(if decide (V.int (z23 / 6%3)=V.int 0)=true then(1:Int) else 0)=(own:Int)/\own<2:=by
     split
     . show#[(1),rfl,#[]]
     . show#[(0),rfl,#[]]
   show#[5,cl,35,aE.of F.2.2.1,hz23,19,#[#[],#[]],19,(show(0:Int)<3 by decide),rfl,.inr #[5,?_]];rw[hown];show#[85,cl,wl,cs,w0,w1,w2,own,rfl,aE.of F.2.2.1,∅,aE.of F.2.1,wwd,wwm,own2,λpp pl nl n1 n2 n3 F_ H3 sn hpp eown enm hP hN=>?_];have F:=F.mono sn; have F:=F.re
   subst eown;show#[pp,5,hpp,403,?_];have F:=(Al.nil (H:=H3)) |>.add F.2.2.1 |>.add F.2.1;have b5:=ce z11 5 #[];show#[5,cl,35,aE.of F.2.2.1,hz11,19,(show(0:Int)<5 by decide),?_];generalize z11%5=k at b5 ⊢;show#[5,cl,35,aE.of F.2.2.1,hz11,19,#[#[],#[]],19,(show(0:Int)<2 by decide),rfl,?_];generalize decide (V.int (z11 / 5%2)=V.int 0)=dp;have b2:=ce (z11 / 10) 2 #[];show#[5,cl,35,aE.of F.2.2.1,hz11,19,#[#[],#[]],19,(show(0:Int)<2 by decide),?_];generalize z11 / 10%2=cm at b2 ⊢;have b4:=ce (z11 / 20) 3 #[];obtain⟨kk,hkk⟩:∃kk:Nat,z11 / 20%3=(kk:Int):=#[(z11 / 20%3).toNat,∅]
   have kk3:kk<3:=by lia
   show#[5,cl,35,aE.of F.2.2.1,hz11,19,#[#[],#[]],19,(show(0:Int)<3 by decide),?_];rw[hkk];have b6:=ce (z11 / 60) 2 #[];have b7:=ce ((kk:Int)+1+z11 / 60%2) 3 #[];obtain⟨on,hon⟩:∃on:Nat,((kk:Int)+1+z11 / 60%2)%3=(on:Int):=#[(((kk:Int)+1+z11 / 60%2)%3).toNat,∅]
   have on3:on<3/\on≠kk:=by lia
   show#[333,cl,35,aE.of F.2.2.1,hz11,19,#[#[],#[]],19,(show(0:Int)<2 by decide),307,(show(0:Int)<3 by decide),?_];rw[hon];clear hkk hon b4 b6 b7;show#[5,cl,35,aE.of F.2.2.1,hz12,19,(show(0:Int)<61 by decide),77,cl,35,aE.of F.2.2.1,hz12,19,#[#[],#[]],19,(show(0:Int)<61 by decide),19,(by show 8<=sizeLine; decide),λbl k_=>?_];have hbs:iG [0,1,2,3,4,5,6+z12%61,67+z12 / 61%61]:=#[rfl,λb hb=>by
     have y1:=ce z12 61 #[];have y2:=ce (z12 / 61) 61 #[];simp only[JT,J',or_false] at hb
     lia]
   generalize eh:upd H3 bl _=B1; have F:=F.nh k_ eh
   have F:Al H3 B1 ((bl,.lst ([0,1,2,3,4,5,6+z12%61,67+z12 / 61%61].map V.int))::_):=F;have hb8:[0,1,2,3,4,5,6+z12%61,67+z12 / 61%61].length=8:=rfl;generalize [0,1,2,3,4,5,6+z12%61,67+z12 / 61%61]=bs at F hbs hb8;show jS _ _ _ [⇑↥a,⇑↥cl,⇑↥wl,⇑(.int (F_.own:Int)),⇑↥pl,⇑↥nl,⇑(.int k),⇑(.bl dp),⇑(.int cm),⇑(.int (kk:Int)),⇑(.int (on:Int)),⇑↥bl,none,none,none,none,none,none,none,none,none,none,none,none,none,none,none] _;show#[1365,pl,wl,F_,k,dp,rfl,(hP*>F.1),λch us H5 sn _ e_ch p_ch=>?_];have F:=F.mono sn; have hP:=hP*>F.1; have hN:=hN*>F.1; have F:=F.re; have F:=F.add e_ch
   let#[fs0,G,r,rg,efr,g8,hfs,l2]:=BS hP dp b5.1 b5.2;rw[efr] at p_ch;have lus:=Rk2.Ps.len p_ch; rw[JE] at lus;have lfs:(fs0++[(G,r)]).length=fs0.length+1:=by rw[JF]; rfl
   have hGm:G∈[F_.a,F_.b,F_.c]:=(hfs (G,r) 0x6).1;show#[5,ch,rfl,#[_,aE.of F.2.1],λtl htl=>iR (xs:=us) (λi _ v=>∃x nx,(fs0++[(G,r)])[i]?=⇑x/\v=↥nx/\aE K H5 nx ((F2.nms x.1).map V.str)) (λi v G G' s h=>h) ∅ (aE.of F.2.1) htl ?_ ?_]
   . rintro i x G3 R_ hx s3 ⟨acc,eacc⟩ kk_;let#[u,c_,d1,d2,fx,rfl,hfx]:=Rk2.Ps.at p_ch (n:=i) (by have:=(JH.mp hx).1; have:=Rk2.Ps.len p_ch; lia);rw[hx] at d1;cases d1;rw[JS,Jg] at d2;let#[x,d2,rfl]:=d2;have hx2:=(hfs x (JM d2)).1;have kx:=jt (ws:=[F_.a.name,F_.b.name,F_.c.name]) (K' (f:=λF:F2.Fd=>F.name) hx2) (by show 3<=100; decide);let#[nx,hix,hnx]:=qR hP hN hx2;show#[21,.inl #[6,s3.seq hP.wl],5,fx,35,s3<*hfx,at0,wl,35,s3.seq hP.wl,kx.1,kx.2.1,kx.2.2.1,kx.2.2.2.1,kx.2.2.2.2,nl,35,s3.seq hN.l,hix,kk_ _ _ (aA.refl _) #[x,nx,d2,rfl,hnx]]
   rintro H6 tv sn e_tl l3_ t3;have t3:∀(i:Nat) v,tv[i]?=⇑v->∃x nx,(fs0++[(G,r)])[i]?=⇑x/\v=↥nx/\aE K H6 nx ((F2.nms x.1).map V.str):=λi v h=>by let#[x,nx,a,b,c]:=t3 i v h; show#[x,nx,a,b,sn.seq c]
   have F:=F.mono sn; have hP:=hP*>F.1; have hN:=hN*>F.1; have p_ch:=Rk2.Ps.imp (λ_ _ z=>z*>F.1) p_ch; have g8:=g8*>F.1; have F:=F.re; have F:=F.add e_tl
   rw[lus,lfs] at l3_;obtain⟨v,ev⟩:∃v,tv[fs0.length]?=⇑v:=#[_,JU ∅]
   let#[x,nG,ex,rfl,hnG]:=t3 _ _ ev;rw[Jf (JN _),KG] at ex;cases ex;have tG:ay tv (-1)=⇑↥nG:=ve l3_ ev;obtain⟨v,ev0⟩:∃v,tv[0]?=⇑v:=#[_,JU ∅]
   let#[x0,n0,ex0,rfl,hn0]:=t3 _ _ ev0;have hx0:=hfs x0 (JM ex0);show jS _ _ _ [⇑↥a,⇑↥cl,⇑↥wl,⇑(.int (F_.own:Int)),⇑↥pl,⇑↥nl,⇑(.int k),⇑(.bl dp),⇑(.int cm),⇑(.int (kk:Int)),⇑(.int (on:Int)),⇑↥bl,⇑↥ch,⇑↥tl,none,none,none,none,none,none,none,none,none,none,none,none,none] _;show#[5,ch,5,.inl (aE.of F.2.2.1),5,∅,∅,λvl hvl=>rS (lo:=0) (n:=us.length) (λi G2 v=>∃x vx,(fs0++[(G,r)])[i]?=⇑x/\iU H6 G2 vx v/\vx.length=(F2.nms x.1).length/\ee vx/\cQ vx) (λi v G G' s z253_=>by let#[x,vx,a,b,c]:=z253_; show#[x,vx,a,b*>s,c]) ∅ hvl ?_ ?_]
   . rintro i H2 R_ hi s2 ⟨acc,e2⟩ k2;let#[ci,hci]:=cx (cs:=cs) (j:=13+i) ∅;obtain⟨tv_,htv⟩:∃v,tv[i]?=⇑v:=#[_,JU ∅]
     let#[x,nx,hx,rfl,hnx]:=t3 i _ htv;have x20:=(hP.ok x.1 (hfs x (JM hx)).1).2.2.2.1;have iz:(0+(i:Int))=(i:Int):=L7 _;show#[339,cl,35,aE.of (s2 _ _ (F.g 4 rfl)),(by rw[iz,show(13:Int)+(i:Int)=((13+i:Nat):Int) by lia]; exact hci),21,tl,35,aE.of (s2 _ _ F.2.1),(by rw[iz]; exact bf htv),nx,5,.inl (s2.seq hnx),21,ci,_,bl,bs,cm,rfl,(by rw[JE]; exact x20),aE.of (s2 _ _ (F.g 2 rfl)),hbs,b2.1,λl us' vw' H3 s3 n3 e3 p3 h3=>k2 _ _ s3 #[x,vw',hx,(by let#[l,us,z1,z2,z3]:=dA.erl (s3 _ _ e2) e3 (λz=>by rw[z,e2] at n3; cases n3) p3; show#[l,us,z1,(by cases z1; exact s2.free n3),z2,z3]),by rw[h3.1,JE],h3.2]]
   rintro H7 vs sn e_vl l_vl t_vl;let#[Vs,v1_,v2_,v3_]:=kU (P:=λi vx v=>∃x,(fs0++[(G,r)])[i]?=⇑x/\iU H6 (ers vl H7) vx v/\vx.length=(F2.nms x.1).length/\ee vx/\cQ vx) λi v h=>by let#[x,vx,a]:=t_vl i v h; show#[vx,x,a]
   have p_vs:Rk2.Ps (dA H7) vs Vs:=Rk2.Ps.imp (λ_ _ z254_=>by obtain⟨_,_,_,⟨l,us,a,_,b,c⟩,_⟩:=z254_; exact dA.mono cZ #[l,us,a,b,c]) v3_;let#[Vs0,vw,rfl]:=lX (l:=Vs) (n:=fs0.length) ∅;have ho:Ok6 F_ (fs0++[(G,r)]) (Vs0++[vw]):=#[hfs,by
     refine L6 λi=>?_;rw[JS,JS];cases hi:(Vs0++[vw])[i]? with
     | none =>
       have:=Jy.mp hi;rw[Jy.mpr ∅];rfl
     | some v =>
       let#[_,_,x,hx,_,hl,_]:=v2_ i v hi;rw[hx];show ⇑v.length=⇑_;rw[hl]]
   have hv9:∀v∈Vs0++[vw],ee v/\cQ v:=λv hv=>by let#[i,hi]:=Jp hv;let#[_,_,x,_,_,_,h]:=v2_ i v hi;exact h
   have lvw:vw.length=(F2.nms G).length:=ho.at (i:=fs0.length) (x:=(G,r)) (by rw[Jf (JN _),KG]; rfl) (by rw[Jf (by have:=ho.len; rw[JF,JF] at this; simp at this; lia),show fs0.length - Vs0.length=0 by have:=ho.len; rw[JF,JF] at this; simp at this; lia]; rfl);have v9:=(hv9 vw 0x6).1; have nov:=(hv9 vw 0x6).2
   have F:=F.mono sn; have hP:=hP*>F.1; have hN:=hN*>F.1; have p_ch:=Rk2.Ps.imp (λ_ _ z=>z*>F.1) p_ch; have g8:=g8*>F.1; have hnG:=F.1.seq hnG; have hn0:=F.1.seq hn0; have F:=F.re; have F:=F.add e_vl
   clear v1_ v2_ v3_ t_vl;obtain⟨⟨c,hc,hrow⟩,hrp,hrr,hr20⟩:=g8.row hP;let#[ds,s_,hds,hdo,hsk]:=g8.asks hP lvw v9 nov;let#[Kn,gs,hst]:=CW hP g8 ho lvw v9 nov;show#[5461,pl,nl,wl,ch,vl,n1,n2,n3,F_,k,us,vs,fs0,G,r,c,rg,Vs0,vw,Kn,rfl,hP,hN,(F.g 2 rfl),p_ch,(λx hx=>(hfs x hx).1),hc,hrow,aE.of F.2.1,p_vs,lvw,(mj ho).l,∅,hst.kb hP,λkn ks H9 sn e_kn p_kn=>?_];have F:=F.mono sn; have hP:=hP*>F.1; have hN:=hN*>F.1; have p_ch:=Rk2.Ps.imp (λ_ _ z=>z*>F.1) p_ch; have hnG:=F.1.seq hnG; have hn0:=F.1.seq hn0; have p_vs:=Rk2.Ps.imp (λ_ _ z=>z*>F.1) p_vs; have hrow:=F.1.tup hrow; have hrp:=hrp*>F.1; have hst:=hst*>F.1; have F:=F.re; have F:=F.add e_kn
   show jS _ _ _ [⇑↥a,⇑↥cl,⇑↥wl,⇑(.int (F_.own:Int)),⇑↥pl,⇑↥nl,⇑(.int k),⇑(.bl dp),⇑(.int cm),⇑(.int (kk:Int)),⇑(.int (on:Int)),⇑↥bl,⇑↥ch,⇑↥tl,⇑↥vl,⇑↥kn,none,none,none,none,none,none,none,none,none,none,none] _;have hKo:=hst.kn hP (λv hv=>#[dP.of (hv9 v hv).1.ok (hv9 v hv).2,by
     let#[i,hi]:=Jp hv;obtain⟨x,hx⟩:∃x,(fs0++[(G,r)])[i]?=⇑x:=#[_,JU (by have:=ho.len; have:=(JH.mp hi).1; lia)]
     rw[ho.at hx hi];exact(hP.ok x.1 (hfs x (JM hx)).1).2.2.2.1])
   have lKn:=hst.l3 ho l2;rw[JL] at p_ch;let#[us0,u,rfl,hus0,fa,rfl,hfa]:=St.Ps.split1 p_ch;have p_ch:Rk2.Ps (cy K H9) (us0++[V.ref fa]) ((fs0++[(G,r)]).map bY):=by rw[JL]; exact p_ch
   show#[85,ch,35,aE.of (F.g 3 rfl),cO _ _,pl,fa,[F_.a,F_.b,F_.c],G,r,c,rfl,hP.pl,(λF h=>(hP.ok F h).2.1),hP.nd,hGm,hfa,hc,(by show 3<=10; decide),λH10 sn=>?_];have F:=F.mono sn; have hP:=hP*>F.1; have hN:=hN*>F.1; have p_ch:=Rk2.Ps.imp (λ_ _ z=>z*>F.1) p_ch; have hnG:=F.1.seq hnG; have hn0:=F.1.seq hn0; have p_vs:=Rk2.Ps.imp (λ_ _ z=>z*>F.1) p_vs; have hrow:=F.1.tup hrow; have hrp:=hrp*>F.1; have hst:=hst*>F.1; have p_kn:=Rk2.Ps.imp (λ_ _ z=>z*>F.1) p_kn; have F:=F.re
   have efs:decide (V.int (((us0++[V.ref fa]).length:Nat):Int)=V.int 1)=decide (fs0=[]):=by rw[lus,lfs];refine decide_eq_decide.mpr #[λz=>List.length_eq_zero_iff.mp (by have:=V.int.inj z; lia),λz=>by rw[z]; rfl]
   show#[5,ch,5,.inl (aE.of (F.g 3 rfl)),rfl,?_];rw[efs];show jS _ _ _ [⇑↥a,⇑↥cl,⇑↥wl,⇑(.int (F_.own:Int)),⇑↥pl,⇑↥nl,⇑(.int k),⇑(.bl dp),⇑(.int cm),⇑(.int (kk:Int)),⇑(.int (on:Int)),⇑↥bl,⇑↥ch,⇑↥tl,⇑↥vl,⇑↥kn,⇑↥c.r,⇑(.bl (decide (fs0=[]))),none,none,none,none,none,none,none,none,none] _;let#[vs0,v,rfl,hvs0,lv,uv,rfl,elv,huv]:=St.Ps.split1 p_vs;have hvs_:=p_vs;have nab:=λw hw=>(hP.ok w hw).1;show#[85,tl,35,aE.of (F.g 2 rfl),tG,21,vl,35,aE.of F.2.2.1,cO _ _,85,cl,35,aE.of (F.g 6 rfl),hz16,1331,.inr #[∅,∅],77,cl,35,aE.of (F.g 6 rfl),hz22,aZ,λca k_n=>?_];generalize eh:upd H10 ca _=B2; have F:=F.nh k_n eh
   show#[85,c.r,nG,lv,ca,wl,bl,on,k,decide (fs0=[]),rg,F2.nms G,uv,vw,4,F_.a.name,F_.b.name,_,bs,rfl,(F.1.tup hrow),(hrp*>F.1),hrr,hr20,(F.1.seq hnG),aE.of (F.1 _ _ elv),(Rk2.Ps.imp (λ_ _ z=>aO.mono z F.1) huv),lvw,((hP*>F.1).ok G hGm).2.2.2.1,v9,nov,aE.of F.2.1,(hP*>F.1).wl,nab _ 0x6,nab _ 0x6,aE.of (F.g 5 rfl),hbs,hb8,λac as fb H11 sn hac hAc=>?_];have F:=F.mono sn; have hP:=hP*>F.1; have hN:=hN*>F.1; have p_ch:=Rk2.Ps.imp (λ_ _ z=>z*>F.1) p_ch; have hnG:=F.1.seq hnG; have hn0:=F.1.seq hn0; have hrow:=F.1.tup hrow; have hrp:=hrp*>F.1; have hst:=hst*>F.1; have p_kn:=Rk2.Ps.imp (λ_ _ z=>z*>F.1) p_kn; have elv:=F.1 _ _ elv; have huv:=Rk2.Ps.imp (λ_ _ z=>aO.mono z F.1) huv; have hvs_:=Rk2.Ps.imp (λ_ _ z=>z*>F.1) hvs_; have F:=F.re
   have F:=(Al.nil (H:=H11)) |>.add (F.g 7 rfl) |>.add (F.g 6 rfl) |>.add (F.g 5 rfl) |>.add (F.g 4 rfl) |>.add (F.g 3 rfl) |>.add (F.g 2 rfl) |>.add F.2.2.1;show jS _ _ _ [⇑↥a,⇑↥cl,⇑↥wl,⇑(.int (F_.own:Int)),⇑↥pl,⇑↥nl,⇑(.int k),⇑(.bl dp),⇑(.int cm),⇑(.int (kk:Int)),⇑(.int (on:Int)),⇑↥bl,⇑↥ch,⇑↥tl,⇑↥vl,⇑↥kn,⇑↥c.r,⇑(.bl (decide (fs0=[]))),⇑↥ac,none,none,none,none,none,none,none,none] _;show#[5,cl,35,aE.of (F.g 6 rfl),hz17,5,kn,9,aE.of F.2.1,p_kn,hKo,lKn,λfl uf kf H13 sn hfl e_fl p_fl z255_=>?_];let#[l_fl,o_fl]:=z255_;have F:=F.mono sn; have hP:=hP*>F.1; have hN:=hN*>F.1; have p_ch:=Rk2.Ps.imp (λ_ _ z=>z*>F.1) p_ch; have hnG:=F.1.seq hnG; have hn0:=F.1.seq hn0; have hrow:=F.1.tup hrow; have hrp:=hrp*>F.1; have hst:=hst*>F.1; have p_kn:=Rk2.Ps.imp (λ_ _ z=>z*>F.1) p_kn; have elv:=F.1 _ _ elv; have huv:=Rk2.Ps.imp (λ_ _ z=>aO.mono z F.1) huv; have hvs_:=Rk2.Ps.imp (λ_ _ z=>z*>F.1) hvs_; have hac:=F.1.tup hac; have hAc:=hAc*>F.1; have F:=F.re
   show#[5,z17,fl,bl,uf,kf,bs,rfl,aE.of e_fl,p_fl,o_fl,l_fl,aE.of (F.g 4 rfl),hbs,λsS xs ps H14 sn hst_ e_st p_st l_st o_st=>?_];have F:=F.mono sn; have hP:=hP*>F.1; have hN:=hN*>F.1; have p_ch:=Rk2.Ps.imp (λ_ _ z=>z*>F.1) p_ch; have hnG:=F.1.seq hnG; have hn0:=F.1.seq hn0; have hrow:=F.1.tup hrow; have hrp:=hrp*>F.1; have hst:=hst*>F.1; have p_kn:=Rk2.Ps.imp (λ_ _ z=>z*>F.1) p_kn; have elv:=F.1 _ _ elv; have huv:=Rk2.Ps.imp (λ_ _ z=>aO.mono z F.1) huv; have hvs_:=Rk2.Ps.imp (λ_ _ z=>z*>F.1) hvs_; have hac:=F.1.tup hac; have hAc:=hAc*>F.1; have F:=F.re; have F:=F.add e_st
   show#[5,sS,xs,ps,.non,none,rfl,.inl #[7],aE.of F.2.1,p_st,∅,λnw0 kw0 H15 sn hnw0 e_nw0 nv0=>?_];have F:=F.mono sn; have hP:=hP*>F.1; have hN:=hN*>F.1; have p_ch:=Rk2.Ps.imp (λ_ _ z=>z*>F.1) p_ch; have hnG:=F.1.seq hnG; have hn0:=F.1.seq hn0; have hrow:=F.1.tup hrow; have hrp:=hrp*>F.1; have hst:=hst*>F.1; have p_kn:=Rk2.Ps.imp (λ_ _ z=>z*>F.1) p_kn; have elv:=F.1 _ _ elv; have huv:=Rk2.Ps.imp (λ_ _ z=>aO.mono z F.1) huv; have hvs_:=Rk2.Ps.imp (λ_ _ z=>z*>F.1) hvs_; have hac:=F.1.tup hac; have hAc:=hAc*>F.1; have p_st:=Rk2.Ps.imp (λ_ _ z=>z*>F.1) p_st; have F:=F.re; have F:=F.add e_nw0
   show#[λσ' G'=>∃(nw:Mc) (kw:List (aI×V)),σ'=[⇑↥a,⇑↥cl,⇑↥wl,⇑(.int (F_.own:Int)),⇑↥pl,⇑↥nl,⇑(.int k),⇑(.bl dp),⇑(.int cm),⇑(.int (kk:Int)),⇑(.int (on:Int)),⇑↥bl,⇑↥ch,⇑↥tl,⇑↥vl,⇑↥kn,⇑↥c.r,⇑(.bl (decide (fs0=[]))),⇑↥ac,⇑↥sS,⇑↥nw,none,none,none,none,none,none]/\aA H15 G'/\G' nw=⇑(.dK kw)/\Rk2.NV G' kw (bZ (ps++dN fb)),?_,?_]
   . show#[45,?_];by_cases k4:k=4
     . refine aL (JG (JW V.int k4)) ?_;obtain⟨bv,ebv,hbv⟩:∃bv,as=[.str "wait",bv,.int (on:Int)]/\Bv bv fb:=by
         subst k4;cases hAc with
         | go a=>exact absurd a #[]
         | out a b=>rcases a with a|a|⟨a|a,_⟩ <;> exact absurd a #[]
         | wait a b=>show#[5,b]
         | back a b c=>exact absurd a #[]
         | call a _ _ _ _=>exact absurd a #[]
       rw[ebv] at hac;show#[21,ac,35,hac,rfl,sS,xs,ps,bv,fb,rfl,hbv.imp_right λz256_=>by let#[i,x,y,_]:=z256_; show#[i,x,y],aE.of F.2.2.1,p_st,∅,λnw kw G1 s1 n1_ e1 nv=>#[nw,kw,rfl,s1,e1,nv]]
     . have efb:fb=none:=by
         cases hAc with
         | wait a b=>exact absurd a k4
         | _=>rfl
       subst efb;exact aX (λz=>k4 (V.int.inj (aq z))) #[nw0,kw0,rfl,aA.refl _,F.2.1,by show Rk2.NV _ kw0 (bZ (ps++[])); rw[K5]; have h:=nv0; rw[show dN none=[] from rfl,K5] at h; exact h]
   rintro σ' H16 ⟨nw,kw,rfl,sn,e_nw,nv⟩;refine ly ?_; intro sg;have F:=F.mono sn; have hP:=hP*>F.1; have hN:=hN*>F.1; have p_ch:=Rk2.Ps.imp (λ_ _ z=>z*>F.1) p_ch; have hnG:=F.1.seq hnG; have hn0:=F.1.seq hn0; have hrow:=F.1.tup hrow; have hrp:=hrp*>F.1; have hst:=hst*>F.1; have p_kn:=Rk2.Ps.imp (λ_ _ z=>z*>F.1) p_kn; have elv:=F.1 _ _ elv; have huv:=Rk2.Ps.imp (λ_ _ z=>aO.mono z F.1) huv; have hvs_:=Rk2.Ps.imp (λ_ _ z=>z*>F.1) hvs_; have hac:=F.1.tup hac; have hAc:=hAc*>F.1; have p_st:=Rk2.Ps.imp (λ_ _ z=>z*>F.1) p_st; have F:=F.re; have F:=F.add e_nw
   have tps:∀b∈ps++dN fb,Rk2.okl (Rk2.lvs b.2)/\bI b.2:=λb hb=>by
     rcases JV.mp hb with h|h
     . show#[(o_st b h).1.1,(o_st b h).1]
     . cases fb with
       | none=>cases h
       | some i=>cases JO.mp h; show#[pc.1,pc]
   have e_all:=F.2;have F:=(Al.nil (H:=H16)) |>.add (F.g 9 rfl) |>.add (F.g 8 rfl) |>.add (F.g 7 rfl) |>.add (F.g 6 rfl) |>.add (F.g 5 rfl) |>.add (F.g 4 rfl) |>.add (F.g 3 rfl) |>.add (F.g 2 rfl) |>.add F.2.1;obtain⟨-,e_nw,e_st,e_kn,e_vl,e_tl,e_ch,e_bl,e_wl,e_cl,-⟩:=F;show#[λσ' G'=>∃(sA:Mc) (svs:List V) (ks:List Str),σ'=[⇑↥a,⇑↥cl,⇑↥wl,⇑(.int (F_.own:Int)),⇑↥pl,⇑↥nl,⇑(.int k),⇑(.bl dp),⇑(.int cm),⇑(.int (kk:Int)),⇑(.int (on:Int)),⇑↥bl,⇑↥ch,⇑↥tl,⇑↥vl,⇑↥kn,⇑↥c.r,⇑(.bl (decide (fs0=[]))),⇑↥ac,⇑↥sS,⇑↥nw,⇑↥sA,none,none,none,none,none]/\aA H16 (ers sA G')/\H16 sA=none/\G' sA=⇑(.lst svs)/\ks.length=3/\Rk2.Ps (gH K (ers sA G')) svs ks,?_,?_]
   . have F:=Al.nil (H:=H16);show#[fA,λw_ k_n=>?_];generalize eh:upd H16 w_ _=B3; have F:=F.nh k_n eh
     show#[aZ,λx_ k_n=>?_];generalize eh:upd B3 x_ _=B4; have F:=F.nh k_n eh
     show#[aZ,λy_ k_n=>?_];generalize eh:upd B4 y_ _=B5; have F:=F.nh k_n eh
     show#[aZ,λu_ k_n=>?_];generalize eh:upd B5 u_ _=B6; have F:=F.nh k_n eh
     show#[cB,λl_ k_n=>?_];generalize eh:upd B6 l_ _=B7; have F:=F.nh k_n eh
     obtain⟨SC,e_l_,e_u_,e_y_,e_x_,e_w_,-⟩:=F;show#[l_,19,e_l_,#[],#[],bt (by show 1 * 3<_; decide),λsA k_s=>#[sA,_,["back","back","back"],rfl,?_,SC.free k_s,aG,rfl,?_]]
     . rw[fH]; exact gU SC (SC.free k_s)
     . rw[fH];have hu:=gH.mono (gU (aA.refl _) k_s) (FY (K:=K) e_u_ e_w_ e_y_ e_x_);show#[hu,hu,hu,trivial]
   rintro σ' D5 ⟨sA,svs,ks_,rfl,SD,nsA,e_sA,ks3,hss⟩;refine ly ?_; intro sg;have S5_:aA H16 D5:=SD.trans cZ;have lss:=Rk2.Ps.len hss;let#[u0,c0_,hu0,hc0,f0,rfl,hf0]:=Rk2.Ps.at p_ch (n:=0) (by rw[JE,lfs]; lia);rw[JS,ex0] at hc0; cases hc0;have hf0:aD K H16 f0 [.str x0.1.name,.int (x0.2:Int)]:=hf0;have sz20:=(hP.ok x0.1 hx0.1).2.2.2.1;have lsz:((F2.nms x0.1).map V.str).length=(F2.nms x0.1).length:=JE _;show#[5,tl,35,aE.of (S5_ _ _ e_tl),bf (j:=0) ev0,n0,5,.inl (S5_.seq hn0),?_];rw[lsz];show oq _ _ _ [⇑↥a,⇑↥cl,⇑↥wl,⇑(.int (F_.own:Int)),⇑↥pl,⇑↥nl,⇑(.int k),⇑(.bl dp),⇑(.int cm),⇑(.int (kk:Int)),⇑(.int (on:Int)),⇑↥bl,⇑↥ch,⇑↥tl,⇑↥vl,⇑↥kn,⇑↥c.r,⇑(.bl (decide (fs0=[]))),⇑↥ac,⇑↥sS,⇑↥nw,⇑↥sA,⇑(.int (((F2.nms x0.1).length:Nat):Int)),none,none,none,none] _;show#[λσ' G'=>∃(mA:Mc) (mvs:List V) (Ms:List (List Lev)),σ'=[⇑↥a,⇑↥cl,⇑↥wl,⇑(.int (F_.own:Int)),⇑↥pl,⇑↥nl,⇑(.int k),⇑(.bl dp),⇑(.int cm),⇑(.int (kk:Int)),⇑(.int (on:Int)),⇑↥bl,⇑↥ch,⇑↥tl,⇑↥vl,⇑↥kn,⇑↥c.r,⇑(.bl (decide (fs0=[]))),⇑↥ac,⇑↥sS,⇑↥nw,⇑↥sA,⇑(.int (((F2.nms x0.1).length:Nat):Int)),⇑↥mA,none,none,none]/\TwoM K H16 sA mA [F_.a,F_.b,F_.c] G' svs ks_ mvs Ms,?_,?_]
   . show#[5,sA,rfl,#[_,aE.of e_sA],λmA hmA=>iR (xs:=svs) (λi Gx v=>∃e:Lev,LevOk [F_.a,F_.b,F_.c] e/\(bx e.vw/\cQ e.vw)/\dn K (ers sA Gx) (eR [e]) v) (λi v G G' s z257_=>by let#[e,a,b,c]:=z257_; show#[e,a,b,c*>(aA.ers s)]) ∅ (aE.of e_sA) hmA ?_ ?_]
     . rintro i x G_ R_ hx sG ⟨acc,eacc⟩ kk_;have SE:aA H16 G_:=S5_.trans sG;have esA:=sG _ _ e_sA;have F:=Al.nil (H:=G_);show#[5,ch,35,aE.of (SE _ _ e_ch),bf (j:=0) hu0,f0,35,SE.tup hf0,at0,aZ,λq1 k_n=>?_];have n_q1:=And.intro (dW esA k_n) (dW eacc k_n);generalize eh:upd G_ q1 _=B3; have F:=F.nh k_n eh
       show#[cB,λq2 k_n=>?_];have n_q2:=And.intro (dW (F.1 _ _ esA) k_n) (dW (F.1 _ _ eacc) k_n);generalize eh:upd B3 q2 _=B4; have F:=F.nh k_n eh
       show#[cB,λq3 k_n=>?_];have n_q3:=And.intro (dW (F.1 _ _ esA) k_n) (dW (F.1 _ _ eacc) k_n);generalize eh:upd B4 q3 _=B5; have F:=F.nh k_n eh
       show#[5,q3,19,F.2.1,∅,∅,bt (by rw[KA]; show 1 * (F2.nms x0.1).length<_; lia),λq5 k_n=>?_];have n_q5:=And.intro (dW (F.1 _ _ esA) k_n) (dW (F.1 _ _ eacc) k_n);rw[nL,KA];generalize eh:upd B5 q5 _=B6; have F:=F.nh k_n eh
       show#[cB,λq6 k_n=>?_];have n_q6:=And.intro (dW (F.1 _ _ esA) k_n) (dW (F.1 _ _ eacc) k_n);generalize eh:upd B6 q6 _=B7; have F:=F.nh k_n eh
       show#[aZ,λq7 k_n=>?_];have n_q7:=And.intro (dW (F.1 _ _ esA) k_n) (dW (F.1 _ _ eacc) k_n);generalize eh:upd B7 q7 _=B8; have F:=F.nh k_n eh
       refine kk_ _ _ F.1 #[#[x0.1,(0),List.replicate (F2.nms x0.1).length none],#[hx0.1,(Nat.zero_lt_of_lt hx0.2),Jr ..,Jj sz20 #[]],#[λo ho=>by rw[(Kc.mp ho).2]; exact d9.no,λt ht=>by cases (Kc.mp ht).2],q7,↥q2,q6,[↥q5],rfl,mE n_q7 F.2.1,?_,mE n_q6 F.2.2.1,#[q5,5,mE n_q5 (F.g 2 rfl),pR (show aO _ none .non from rfl) _],trivial];show#[q2,[↥q1],rfl,aD.of (mE n_q2 (F.g 4 rfl)),#[q1,rfl,aD.of (mE n_q1 (F.g 5 rfl))],trivial]
     . rintro G_ vs_ sG eG lG tG_;let#[es,v1,v2,v3]:=kU (P:=λ_ (e:Lev) v=>LevOk [F_.a,F_.b,F_.c] e/\(bx e.vw/\cQ e.vw)/\dn K (ers sA (ers mA G_)) (eR [e]) v) tG_;have nm_:=dW e_sA hmA;have SM:aA (ers sA D5) (bK sA mA G_):=gU (aA.ers sG) (by rw[bW nm_]; exact hmA);show#[mA,vs_,es.map λe=>[e],rfl,SD.trans SM,nsA,(SD.trans cZ).free hmA,sG _ _ e_sA,eG,nm_.symm,Rk2.Ps.imp (λ_ _ z=>z*>SM) hss,ks3,?_,by rw[JE]; lia,λL hL=>?_]
       . refine Ps.map (λe=>[e]) (λe _ v h=>?_) v3;let#[_,_,_,h]:=h;unfold bK;rw[EA];exact h
       . let#[e,he,rfl]:=Jh.mp hL;let#[i,hi]:=Jp he;let#[_,_,h1,h2,_]:=v2 i e hi;show#[by simp,λe2 h=>by cases JO.mp h; show#[h1,h2]]
   rintro σ' D6 ⟨mA,mvs,Ms,rfl,tw⟩;refine ly ?_; intro sg;have SX:=tw.all;show#[85,tl,35,aE.of (SX _ _ e_tl),tG,21,vl,35,aE.of (SX _ _ e_vl),cO _ _,85,c.r,nG,lv,ac,on,k,decide (fs0=[]),rg,F2.nms G,uv,vw,as,fb,5,SX.tup hrow,hrp*>SX,hrr,SX.tup hac,hAc*>SX,SX.seq hnG,aE.of (SX _ _ elv),Rk2.Ps.imp (λ_ _ z=>aO.mono z SX) huv,lvw,(hP.ok G hGm).2.2.2.1,v9,nov,hds,λb1 D7 s7 hRt=>?_];have tw:=tw*>s7;have hRt:Rt5 K (bK sA mA D7) k (decide (fs0=[])) (.s s_::ds) as b1:=(hRt.er tw.s).er (by rw[bW tw.ne.symm]; exact tw.m);show oq _ _ _ [⇑↥a,⇑↥cl,⇑↥wl,⇑(.int (F_.own:Int)),⇑↥pl,⇑↥nl,⇑(.int k),⇑(.bl dp),⇑(.int cm),⇑(.int (kk:Int)),⇑(.int (on:Int)),⇑↥bl,⇑↥ch,⇑↥tl,⇑↥vl,⇑↥kn,⇑↥c.r,⇑(.bl (decide (fs0=[]))),⇑↥ac,⇑↥sS,⇑↥nw,⇑↥sA,⇑(.int (((F2.nms x0.1).length:Nat):Int)),⇑↥mA,⇑(.bl b1),none,none] _;show#[λσ' G'=>∃(svs:List V) (kz:List Str) (mvs:List V) (Ms:List (List Lev)) (b:Bool) (kd:Str) (L:List Lev) (v25 v26:JK V),σ'=[⇑↥a,⇑↥cl,⇑↥wl,⇑(.int (F_.own:Int)),⇑↥pl,⇑↥nl,⇑(.int k),⇑(.bl dp),⇑(.int cm),⇑(.int (kk:Int)),⇑(.int (on:Int)),⇑↥bl,⇑↥ch,⇑↥tl,⇑↥vl,⇑↥kn,⇑↥c.r,⇑(.bl (decide (fs0=[]))),⇑↥ac,⇑↥sS,⇑↥nw,⇑↥sA,⇑(.int (((F2.nms x0.1).length:Nat):Int)),⇑↥mA,⇑(.bl b),v25,v26]/\TwoM K H16 sA mA [F_.a,F_.b,F_.c] G' svs kz mvs Ms/\aA (bK sA mA D7) (bK sA mA G')/\kz[on]?=⇑kd/\Ms[on]?=⇑L/\(gs=[]/\b=b1\/¬ gs=[]/\b=(b1&&gG (bZ (ps++dN fb)) L (gs.map bY) Kn&&(decide (kd="wait")==decide (k=0)))),?_,?_]
   . rcases hst.nx hP ho l2 with⟨hk2,hf0_,hgs⟩|⟨hnot,gs0,G2,r2,hgs,hnx,hok,hk1,lg⟩
     . obtain⟨kd,hkd⟩:∃x,ks_[on]?=⇑x:=#[_,JU (by rw[ks3]; exact on3.1)]
       obtain⟨L_,hL_⟩:∃x,Ms[on]?=⇑x:=#[_,JU (by rw[tw.ml]; exact on3.1)]
       show#[45,aX (by rw[hk2]; decide) #[21,aX (by rw[hf0_]; decide) #[svs,ks_,mvs,Ms,b1,kd,L_,none,none,rfl,tw,aA.refl _,hkd,hL_,.inl #[hgs,rfl]]]]
     . refine DK (λQ_ hQ=>?_) ?_
       . show#[45,?_];by_cases k2:k=2
         . exact aX (by rw[k2]; decide) #[21,by rw[JP (λz=>hnot #[k2,z])]; exact hQ]
         . exact aL (by rw[JP (λz=>k2 (V.int.inj z))]; rfl) hQ
       have hgn:¬ gs=[]:=by rw[hgs]; simp
       have SX:=tw.all;have how:ay [V.str F_.a.name,V.str F_.b.name,V.str F_.c.name] (F_.own:Int)=⇑(.str F_.o.name):=by
         rcases hP.o with⟨h1,h2⟩|⟨h1,h2⟩
         . rw[h1,h2]; exact bf (j:=0) rfl
         . rw[h1,h2]; exact bf (j:=1) rfl
       show#[341,wl,35,SX.seq hP.wl,how,ch,_,k,F_.o.name,_,gs.map bY,rfl,SX _ _ e_ch,Rk2.Ps.imp (λ_ _ z=>z*>SX) p_ch,hnx,by rw[JE]; lia,λgl ug G1 s1 e_gl ngl p_gl=>?_];have tw0:=tw;have tw:=tw*>s1;have SX:=tw.all;have e_gl2:bK sA mA G1 gl=⇑(.lst ug):=by
         rcases ngl with e|n
         . have e_ch1:=tw.b _ _ e_ch;rw[e] at e_gl ⊢;rw[SX _ _ e_ch] at e_gl;rw[e_ch1,e_gl]
         . exact tw.new tw0 n e_gl
       have okm:=hok.m (G2,r2) (by rw[hgs]; simp);rw[hgs] at p_gl;show#[21,cl,35,aE.of (SX _ _ e_cl),hz18,85,pl,wl,gl,z18,k,cm,F_,ug,gs0,G2,r2,rfl,hP*>SX,e_gl,p_gl,okm.1,okm.2,hk1,lg,λap sv cv kd r3 G3 s3 e_ap hsv hr3 hcv=>?_];have tw1:=tw;have tw:=tw*>s3;have hsq:=hsv.q tw1 tw;have ls:=Rk2.Ps.len tw.ss;show#[ap,5,aD.of e_ap,405,sA,4,on,7,tw.s,i6 (by rw[ls,tw.sl]; exact on3.1),19,?_];have hcv:cX K (bK sA mA G3) ((gs0++[(G2,r3)]).map bY) cv:=by let#[p,cs_,rfl,h1,h2]:=hcv;have hq:∀{a xs},aD K G3 a xs->aD K (bK sA mA G3) a xs:=λh=>iZ (by rw[bW tw.ne.symm]; exact tw.m) (iZ tw.s h);show#[p,cs_,rfl,hq h1,Rk2.Ps.imp (λ_ _ z258_=>by let#[p,e,h]:=z258_; show#[p,e,hq h]) h2]
       have e_gl3:=dm (s:=sA) (m:=mA) s3 _ _ e_gl2;have p_gl:=Rk2.Ps.imp (λ_ _ z=>cy.mono s3 z) p_gl;have p_gl:Rk2.Ps (cy K (bK sA mA G3)) ug (gs.map bY):=by rw[hgs];exact Rk2.Ps.imp (λ_ _ z259_=>by let#[p,e,h]:=z259_; show#[p,e,iZ (by rw[bW tw.ne.symm]; exact tw.m) (iZ tw.s h)]) p_gl
       have twS:=tw.setS (i:=on) hsq;have sS_:aA (bK sA mA D7) (bK sA mA (upd G3 sA (.lst (svs.set on sv)))):=by rw[hJ]; exact(dm s1).trans (dm s3)
       have hcv:cX K (bK sA mA (upd G3 sA (.lst (svs.set on sv)))) ((gs0++[(G2,r3)]).map bY) cv:=by rw[hJ]; exact hcv
       have e_gl3:bK sA mA (upd G3 sA (.lst (svs.set on sv))) gl=⇑(.lst ug):=by rw[hJ]; exact e_gl3
       have p_gl:Rk2.Ps (cy K (bK sA mA (upd G3 sA (.lst (svs.set on sv))))) ug (gs.map bY):=by rw[hJ]; exact p_gl
       generalize upd G3 sA (.lst (svs.set on sv))=G4 at twS sS_ hcv e_gl3 p_gl ⊢;have SX:=twS.all;have lkn:=Rk2.Ps.len p_kn;show#[21,kn,5,.inl (aE.of (SX _ _ e_kn)),5,∅,∅,λpL hpL=>rS (lo:=0) (n:=ks.length) (λi G v=>∃kn vx,Kn[i]?=⇑kn/\iU G4 G vx v/\vx.length=kn.length/\bx vx/\cQ vx) (λi v G G' s z260_=>by let#[kn,vx,a,b,c,d]:=z260_; show#[kn,vx,a,b*>s,c,d]) ∅ hpL ?_ ?_]
       . rintro i H2 R_ hi s2 ⟨acc,e2⟩ k2_;have ST:=SX.trans s2;let#[u,kn_,a1,a2,vl_,us_,rfl,hvl_,hus_]:=Rk2.Ps.at (Rk2.Ps.imp (λ_ _ z=>(z*>ST).a (K:=K)) p_kn) (n:=i) ∅;have ok:=hKo kn_ (JM a2);have iz:(0+(i:Int))=(i:Int):=L7 _;let#[ci,hci]:=cx (cs:=cs) (j:=19+i) ∅;show#[339,cl,35,aE.of (ST _ _ e_cl),(by rw[iz,show(19:Int)+(i:Int)=((19+i:Nat):Int) by lia]; exact hci),21,kn,35,aE.of (ST _ _ e_kn),(by rw[iz]; exact bf a1),170,vl_,nw,bl,us_,kn_,bZ (ps++dN fb),bs,cm,rfl,hvl_,hus_,ok.1,(by have:=ok.2; lia),#[#[kw,ST _ _ e_nw,nv*>ST],rY λb hb=>(tps b hb).2],aE.of (ST _ _ e_bl),hbs,λl us' vw' H3 s3 n3 e3 p3 k3=>k2_ _ _ s3 #[kn_,vw',a2,(by let#[l,us,z1,z2,z3]:=dA.erl (s3 _ _ e2) e3 (λz=>by rw[z,e2] at n3; cases n3) p3; show#[l,us,z1,(by cases z1; exact s2.free n3),z2,z3]),k3]]
       rintro G5 wl_ s5 e5 l5 t5;let#[Ls,v1,v2,v3]:=kU (P:=λi vx v=>∃kn,Kn[i]?=⇑kn/\iU G4 (ers pL G5) vx v/\vx.length=kn.length/\bx vx/\cQ vx) λi v h=>by let#[kn,vx,a]:=t5 i v h; show#[vx,kn,a]
       have pV:Rk2.Ps (iU G4 G5) wl_ Ls:=Rk2.Ps.imp (λ_ _ z261_=>by let#[_,_,_,b,_]:=z261_; exact b*>cZ) v3;have hVl:Ls.map List.length=Kn.map List.length:=BB ∅ λi x h=>by let#[_,_,kn,a,_,b,_]:=v2 i x h; show#[kn,a,b]
       have hVo:∀vw∈Ls,bx vw/\cQ vw:=λvw hv=>by let#[i,hi]:=Jp hv;let#[_,_,kn,_,_,_,b]:=v2 i vw hi;exact b
       have ok3:Ok6 F_ (gs0++[(G2,r3)]) Ls:=#[λx hx=>by
         rcases JV.mp hx with h|h
         . exact hok.m x (by rw[hgs]; exact KB _ h)
         . cases JO.mp h; show#[okm.1,hr3],by
         rw[hVl,hok.l,hgs,JL,JL]; rfl]
       have l3:=ka ok3.len;show#[aZ,λz k_z=>?_];have s6:=aA.new (o:=.tup [cv,↥pL]) k_z;have e6:upd G5 z (.tup [cv,↥pL]) z=_:=aG;have tw6:=(twS*>s5).mono s6;generalize upd G5 z (.tup [cv,↥pL])=G6 at s6 e6 tw6 ⊢;have hMk:dn K (bK sA mA G6) (eR (bp (gs0++[(G2,r3)]) Ls)) ↥z:=by
         show#[z,cv,pL,wl_,rfl,tw6.at_ e6,?_,tw6.new twS hpL (s6 _ _ e5),?_]
         . show cX K _ ((bp _ Ls).map Lev.fr) cv;rw[l3.1];exact hcv*>((dm s5)\(dm s6))
         . show Rk2.Ps _ wl_ ((bp _ Ls).map Lev.vw);rw[l3.2.1];refine Rk2.Ps.imp (λvw v h=>?_) pV;let#[l,us,rfl,y1,y2,y3]:=h;show#[l,us,rfl,tw6.new twS y1 (s6 _ _ y2),Rk2.Ps.imp (λ_ _ y=>Be tw6.s tw6.m (aO.mono y s6)) y3]
       have lm:=Rk2.Ps.len tw6.ms;show#[21,mA,4,on,7,tw6.m,i6 (by rw[lm,tw6.ml]; exact on3.1),?_];have lev3:=ok3.lev (fns:=[F_.a,F_.b,F_.c]) λG hG=>#[hG,(hP.ok G hG).2.2.2.1]
       have tw7:=tw6.setM (i:=on) hMk #[by unfold bp; rw[JE,KZ,ok3.len,JF]; show min (gs0.length+1) _<=11; lia,λe he=>#[(lev3 e he).1,hVo _ (lev3 e he).2]];have s56:=(dm (s:=sA) (m:=mA) s5)\(dm s6);have sE:aA (bK sA mA D7) (bK sA mA (upd G6 mA (.lst (mvs.set on ↥z)))):=by rw[iH]; exact sS_\s56
       have e_gl3:bK sA mA (upd G6 mA (.lst (mvs.set on ↥z))) gl=⇑(.lst ug):=by rw[iH]; exact s56 _ _ e_gl3
       have p_gl:Rk2.Ps (cy K (bK sA mA (upd G6 mA (.lst (mvs.set on ↥z))))) ug (gs.map bY):=by rw[iH]; exact Rk2.Ps.imp (λ_ _ z=>z*>s56) p_gl
       generalize upd G6 mA (.lst (mvs.set on ↥z))=G7 at tw7 sE e_gl3 p_gl ⊢;have hkz:(ks_.set on kd)[on]?=⇑kd:=KH (by rw[ks3]; exact on3.1);have hMz:(Ms.set on (bp (gs0++[(G2,r3)]) Ls))[on]?=⇑(bp (gs0++[(G2,r3)]) Ls):=KH (by have:=tw7.ml; rw[KD] at this; rw[this]; exact on3.1);have inv:∀(b_:Bool) (G8:Hp),aA G7 G8->b_=(b1&&gG (bZ (ps++dN fb)) (bp (gs0++[(G2,r3)]) Ls) (gs.map bY) Kn&&(decide (kd="wait")==decide (k=0)))->∃(svs:List V) (kz:List Str) (mvs:List V) (Ms:List (List Lev)) (b:Bool) (kd:Str) (L:List Lev) (v25 v26:JK V),[⇑↥a,⇑↥cl,⇑↥wl,⇑(.int (F_.own:Int)),⇑↥pl,⇑↥nl,⇑(.int k),⇑(.bl dp),⇑(.int cm),⇑(.int (kk:Int)),⇑(.int (on:Int)),⇑↥bl,⇑↥ch,⇑↥tl,⇑↥vl,⇑↥kn,⇑↥c.r,⇑(.bl (decide (fs0=[]))),⇑↥ac,⇑↥sS,⇑↥nw,⇑↥sA,⇑(.int (((F2.nms x0.1).length:Nat):Int)),⇑↥mA,⇑(.bl b_),⇑↥gl,⇑cv]=[⇑↥a,⇑↥cl,⇑↥wl,⇑(.int (F_.own:Int)),⇑↥pl,⇑↥nl,⇑(.int k),⇑(.bl dp),⇑(.int cm),⇑(.int (kk:Int)),⇑(.int (on:Int)),⇑↥bl,⇑↥ch,⇑↥tl,⇑↥vl,⇑↥kn,⇑↥c.r,⇑(.bl (decide (fs0=[]))),⇑↥ac,⇑↥sS,⇑↥nw,⇑↥sA,⇑(.int (((F2.nms x0.1).length:Nat):Int)),⇑↥mA,⇑(.bl b),v25,v26]/\TwoM K H16 sA mA [F_.a,F_.b,F_.c] G8 svs kz mvs Ms/\aA (bK sA mA D7) (bK sA mA G8)/\kz[on]?=⇑kd/\Ms[on]?=⇑L/\(gs=[]/\b=b1\/¬ gs=[]/\b=(b1&&gG (bZ (ps++dN fb)) L (gs.map bY) Kn&&(decide (kd="wait")==decide (k=0)))):=λb_ G8 s8 e=>#[16,b_,kd,17,tw7*>s8,sE\(dm s8),hkz,hMz,.inr #[hgn,e]]
       show#[21,?_];cases b1 with
       | false=>exact jN #[21,jN (inv false G7 (aA.refl _) (by rw[Ki,Ki]))]
       | true =>
         have S7:=tw7.all;have e7:=mZ (s:=sA) (m:=mA) (H:=G7);let#[mv,hmv,mq]:=Ps.get tw7.ms hMz;refine aL rfl #[21,mA,35,aE.of tw7.m,bf hmv,5,gl,5,.inl #[aE.of (e7 _ _ e_gl3),λgt k_g=>?_]];have s8:=aA.new (o:=.tup ug) k_g;have e8:upd G7 gt (.tup ug) gt=_:=aG;generalize upd G7 gt (.tup ug)=G8 at s8 e8 ⊢;have S8:=S7.trans s8;show#[21,mv,↥gt,kn,nw,_,gs.map bY,_,Kn,bZ (ps++dN fb),rfl,(mq*>(e7\s8)).a,#[gt,ug,rfl,aD.of e8,Rk2.Ps.imp (λ_ _ z=>z*>(e7\s8)) p_gl],aE.of (S8 _ _ e_kn),Rk2.Ps.imp (λ_ _ z=>(z*>S8).a) p_kn,#[#[kw,S8 _ _ e_nw,nv*>S8],rY λb hb=>(tps b hb).2],#[λe he=>nab _ (lev3 e he).1.m |>.2,λe he=>(hVo _ (lev3 e he).2).1,λc hc=>?_,λkn hk=>(hKo kn hk).1.ok],λG9 s9=>#[21,?_]]
         . let#[x,hx,rfl]:=Jh.mp hc;exact(nab _ (hok.m x hx).1).2
         rw[K3] at inv;generalize gG (bZ (ps++dN fb)) (bp (gs0++[(G2,r3)]) Ls) (gs.map bY) Kn=hb at inv ⊢;cases hb with
         | false=>exact jN (inv false G9 (s8\s9) (by rw[Ki]))
         | true =>
           have tw9:=tw7*>(s8\s9);have e9:=mZ (s:=sA) (m:=mA) (H:=G9);obtain⟨sv9,hsv9,⟨⟨p9,l9,a9,r9,rfl,hp9,ha9⟩,_⟩⟩:=Ps.get tw9.ss hkz;refine aL rfl #[21,sA,35,aE.of tw9.s,bf hsv9,p9,35,e9<*hp9,rfl,a9,35,e9<*ha9,at0,55,?_];rw[GJ];exact inv _ G9 (s8\s9) (by rw[K3])
   rintro σ' G_ ⟨svs,kz,mvs,Ms,b,kd,L,v25,v26,rfl,tw,sE,hkd,hL_,hb⟩;refine ly ?_; intro sg;let#[kdA,rest,eas]:=hAc.kd;have F:=Al.nil (H:=G_);show#[21,aZ,λz1 k_n=>?_];generalize eh:upd G_ z1 _=B3; have F:=F.nh k_n eh
   obtain⟨sn,e_z1,-⟩:=F; have tw:=tw*>sn; have sE:=sE\(dm sn)
   have hz1:=aD.of (K:=K) (tw.at_ e_z1);have hq:gH K (bK sA mA B3) kdA ↥z1:=#[#[z1,_,ac,rest,rfl,hz1,by rw[<- eas]; exact tw.b<*hac],bH.tup (n:=12) hz1 (.cons (bH.lst (n:=11) (tw.b.seq (aE.of e_st)) (bj.mono tw.b (uA (λb hb=>(o_st b hb).1) p_st))) (.cons (bH.tup (n:=11) (tw.b<*hac) (bj.mono tw.b (yA (n:=10) #[] hAc))) .nil))]
   have hSp:ge K (bK sA mA B3) ps ac ↥z1:=#[z1,sS,xs,rfl,hz1,tw.b.seq (aE.of e_st),Rk2.Ps.imp (λ_ _ z=>z*>tw.b) p_st]
   have ls:=Rk2.Ps.len tw.ss;show#[21,sA,4,kk,7,tw.s,i6 (by rw[ls,tw.sl]; exact kk3),?_];have tw2:=tw.setS (i:=kk) hq;have sE:aA (bK sA mA D7) (bK sA mA (upd B3 sA (.lst (svs.set kk ↥z1)))):=by rw[hJ]; exact sE
   have hSp:ge K (bK sA mA (upd B3 sA (.lst (svs.set kk ↥z1)))) ps ac ↥z1:=by rw[hJ]; exact hSp
   generalize upd B3 sA (.lst (svs.set kk ↥z1))=G2 at tw2 sE hSp ⊢;have SX:=tw2.all;have lV0:Vs0.length=fs0.length:=(mj ho).len;have eLK:bp (fs0++[(G,r)]) (Vs0++[vw])=bp fs0 Vs0++[⟨G,r,vw⟩]:=xm lV0;have lvf:=ka ho.len;rw[eLK] at lvf;have lva:=ho.lev (fns:=[F_.a,F_.b,F_.c]) λG hG=>#[hG,(hP.ok G hG).2.2.2.1]
   rw[eLK] at lva;show#[5,ch,5,.inl #[aE.of (SX _ _ e_ch),λct k_c=>#[5,aZ,λz2 k_z=>?_]]];have s1:=aA.new (o:=.tup (us0++[V.ref fa])) k_c;have s2:=aA.new (o:=.tup [V.ref ct,↥vl]) k_z;have e_ct:=s2 _ _ (show upd G2 ct (.tup (us0++[V.ref fa])) ct=_ from aG);have e_z2:upd (upd G2 ct (.tup (us0++[V.ref fa]))) z2 (.tup [V.ref ct,↥vl]) z2=_:=aG;have SQ:=s1\s2;generalize upd (upd G2 ct (.tup (us0++[V.ref fa]))) z2 (.tup [V.ref ct,↥vl])=G3 at SQ e_ct e_z2 ⊢;have tw3:=tw2*>SQ;have hMk:dn K (bK sA mA G3) (eR (bp fs0 Vs0++[⟨G,r,vw⟩])) ↥z2:=by
     show#[z2,↥ct,vl,5,tw3.at_ e_z2,?_,tw3.b _ _ e_vl,?_]
     . show cX K _ (List.map Lev.fr _) _;rw[lvf.1];show#[ct,5,aD.of (tw3.at_ e_ct),Rk2.Ps.imp (λ_ _ z=>z*>tw3.b) p_ch]
     . show Rk2.Ps _ _ (List.map Lev.vw _);rw[lvf.2.1];exact Rk2.Ps.imp (λ_ _ z=>z*>tw3.b) hvs_
   have lm:=Rk2.Ps.len tw3.ms;show#[21,mA,4,kk,7,tw3.m,i6 (by rw[lm,tw3.ml]; exact kk3),?_];have tw4:=tw3.setM (i:=kk) hMk #[by unfold bp; rw[JF,JE,KZ,lV0]; show min fs0.length fs0.length+1<=11; lia,λe he=>#[(lva e he).1,(hv9 _ (lva e he).2).1.ok,(hv9 _ (lva e he).2).2]];have sE:aA (bK sA mA D7) (bK sA mA (upd G3 mA (.lst (mvs.set kk ↥z2)))):=by rw[iH]; exact sE\(dm SQ)
   have hSp:ge K (bK sA mA (upd G3 mA (.lst (mvs.set kk ↥z2)))) ps ac ↥z1:=by rw[iH]; exact hSp*>(dm SQ)
   generalize upd G3 mA (.lst (mvs.set kk ↥z2))=G5 at tw4 sE hSp ⊢;have SX:=tw4.all;show#[21,cl,35,aE.of (SX _ _ e_cl),hz23,pl,z23,[F_.a,F_.b,F_.c],rfl,SX.seq hP.pl,rfl,λtp Gs G6 s6 e_tp hpm=>?_];have tw6:=tw4*>s6; have S6:=tw6.all; have e6:=mZ (s:=sA) (m:=mA) (H:=G6); have sE:=sE\(dm s6); have hSp:=hSp*>(dm s6)
   have gm:∀{F},F∈Gs->F∈[F_.a,F_.b,F_.c]:=λh=>hpm.mem_iff.mp h;have mg_:∀F∈[F_.a,F_.b,F_.c],F∈Gs:=λF h=>hpm.mem_iff.mpr h;have gok:∀{e},LevOk [F_.a,F_.b,F_.c] e->LevOk Gs e:=λh=>#[mg_ _ h.m,h.r,h.l,h.b]
   have gnd:(Gs.map (·.name)).Nodup:=(hpm.map _).nodup_iff.mpr hP.nd;have gl3:Gs.length=3:=hpm.length_eq;have hkd2:(kz.set kk kdA)[on]?=⇑kd:=by rw[KS on3.2.symm]; exact hkd
   have hL2:(Ms.set kk (bp fs0 Vs0++[⟨G,r,vw⟩]))[on]?=⇑L:=by rw[KS on3.2.symm]; exact hL_
   have dbh:Db5 K (bK sA mA G6) ⟨⟨0,0,0,0,0,0,.non,.non⟩,Gs,svs.set kk ↥z1,mvs.set kk ↥z2,kz.set kk kdA,Ms.set kk (bp fs0 Vs0++[⟨G,r,vw⟩]),bp fs0 Vs0,⟨G,r,vw⟩,ps++dN fb,as⟩ F_ Vs0 vw k fs0 G r rg on fb kd L:=#[gnd,λF h=>(nab F (gm h)).2,mg_,7,ho,v9,nov,λv hv=>(hv9 v hv).1.ok,hkd2,hL2,λe he=>gok ((tw4.ok L (JM hL2)).2 e he).1,hAc*>tw6.b]
   have hst6:=hst*>tw6.b;have hP6:=hP*>tw6.b;have hS5:S5 K t.bT (bK sA mA G6) ⟨⟨0,0,0,0,0,0,.non,.non⟩,Gs,svs.set kk ↥z1,mvs.set kk ↥z2,kz.set kk kdA,Ms.set kk (bp fs0 Vs0++[⟨G,r,vw⟩]),bp fs0 Vs0,⟨G,r,vw⟩,ps++dN fb,as⟩ rg b:=by
     rcases hb with⟨hg,e⟩|⟨hg,e⟩
     . rw[hg] at hst6;rw[e];exact HB dbh hst6 hds hdo (hRt*>sE)
     . rcases hst.nx hP ho l2 with⟨_,_,z⟩|⟨_,_,_,_,_,_,hok,_,_⟩
       . exact absurd z hg
       . rw[e];exact db5 hP6 dbh hst6 hok (λkn hk=>(hKo kn hk).1.ok) hds hdo hsk (hRt*>sE) hg
   show#[341,tp,sA,mA,ac,kk,#[#[(0),(0),(0),(0),(0),(0),.non,.non],Gs,svs.set kk ↥z1,mvs.set kk ↥z2,kz.set kk kdA,Ms.set kk (bp fs0 Vs0++[#[G,r,vw]]),bp fs0 Vs0,#[G,r,vw],ps++dN fb,as],ps,fb,rg,↥z1,c,b,7,aE.of e_tp,(λz=>by have:Gs=[]:=z; rw[this] at gl3; cases gl3),(by show Gs.length<=12; lia),λf hf=>F2.FnAt.mono S6 (hP.ok f (gm hf)).2.1,λf hf=>hP.pr f (gm hf),gnd,#[aE.of tw6.s,Rk2.Ps.imp (λ_ _ z=>z.1*>e6) tw6.ss,aE.of tw6.m,Rk2.Ps.imp (λ_ _ z=>(z*>e6).a) tw6.ms,λL hL=>#[(tw6.ok L hL).1,λe he=>gok ((tw6.ok L hL).2 e he).1]],?_,?_,hSp*>e6,S6.tup hac,FG hAc,(by show ps.length<=1000; lia),λb hb=>(o_st b hb).2,λe he=>(hv9 _ (lva e he).2).2,#[by rw[tw6.sl,tw6.ml],λF h=>(nab F (gm h)).2,λb hb=>(tps b hb).2,λL hL e he t ht=>#[((tw6.ok L hL).2 e he).2.1 _ ht t rfl,((tw6.ok L hL).2 e he).2.2 t ht]],hc,S6.tup hrow,hrp*>S6,hS5*>e6,bj.of (λv hv=>?_),bj.mono e6 (xU tw6.ss),Rk2.Ps.imp (λ_ _ z=>z*>e6) tw6.ms,by rw[tw6.ml]; decide,q]
   . exact KH (by have:=tw6.ml; rw[KD] at this; lia)
   . exact KH (by rw[ls]; have:=tw6.sl; rw[KD] at this; lia)
   . let#[f,hf,rfl]:=Jh.mp hv;exact((hP.ok f (gm hf)).2.2.1.mono S6).up #[]
end
end K45
namespace K45
open PySem L2
structure Fv where
 (oc kV dc pm cd ct:Value)
 (od an:Option Addr)
 sl:Array (Option Value)
noncomputable abbrev Fv.fn (v:Fv) (n q:Str) (s:Stmt):=W.fnOf n q (dH s) (aV s) (az s) .none v.kV v.dc v.pm v.an v.cd v.ct
section
variable {K:Md} {h:Heap} {mg:Str->JK Ma} {f C:Mc} {n m q:Str} {s:Stmt} {oc kV dc pm cd ct:Ma} {od an:JK Mc} {sl:Array (JK Ma)} {v:Fv} {ps:List Str}
abbrev FL (K:Md) (f:Mc) (v:Fv) (n q:Str) (s:Stmt):Prop:=K.lookup f=⇑#[v.oc,v.od,.func (v.fn n q s),v.sl]/\W.codeIn K v.cd q=true/\W.keepIn K ↥f=true
abbrev NF (K:Md) (f:Mc) (v:Fv) (n:Str) (s:Stmt):Prop:=W.nsIn K mainGlobals n=⇑⇑↥f/\FL K f v n n s
abbrev MF (K:Md) (C f:Mc) (v:Fv) (m q:Str) (s:Stmt):Prop:=W.findIn K ↥C m=⇑⇑↥f/\W.isFn K ↥f=true/\FL K f v m q s
abbrev NL (f:Str->JK (JK Ma)):List Str->Prop
 | []=>True
 | n::r=>f n=⇑none/\NL f r
def nf_mk (a:W.nsIn K mainGlobals n=⇑⇑↥f) (l:K.lookup f=⇑#[oc,od,.func (W.fnOf n n (dH s) (aV s) (az s) .none kV dc pm an cd ct),sl]) (c:W.codeIn K cd n=true) (k:W.keepIn K ↥f=true):NF K f #[oc,kV,dc,pm,cd,ct,od,an,sl] n s:=#[a,l,c,k]
def mf_mk (a:W.findIn K ↥C m=⇑⇑↥f) (i:W.isFn K ↥f=true) (l:K.lookup f=⇑#[oc,od,.func (W.fnOf m q (dH s) (aV s) (az s) .none kV dc pm an cd ct),sl]) (c:W.codeIn K cd q=true) (k:W.keepIn K ↥f=true):MF K C f #[oc,kV,dc,pm,cd,ct,od,an,sl] m q s:=#[a,i,l,c,k]
def nl_c {f:Str->JK (JK Ma)} {l:List Str} (a:f n=⇑none) (r:NL f l):NL f (n::l):=#[a,r]
def bV (X:K.In h) (G:h.Ns mainGlobals mg) (e:NF K f v n s) (b:∀(kV doc pm:Ma) (an:JK Mc) (cdv ct:Ma) (us:List Ma),us.length=ps.length->bindArgs (W.fnOf n n (dH s) (aV s) (az s) .none kV doc pm an cdv ct) #[us,[]]=pure (ps.zip us)):DefOk K mg n s ps f (v.fn n n s):=Hy X G e.1 e.2.1 e.2.2.1 e.2.2.2 b
def iB (e:MF K C f v m q s) (b:∀(kV doc pm:Ma) (an:JK Mc) (cdv ct:Ma) (us:List Ma),us.length=ps.length->bindArgs (W.fnOf m q (dH s) (aV s) (az s) .none kV doc pm an cdv ct) #[us,[]]=pure (ps.zip us)):MetOk K C m q s ps f (v.fn m q s):=GU e.1 e.2.1 e.2.2.1 e.2.2.2.1 e.2.2.2.2 b
def uT (mk:W.makesIn K C=true) (kc:W.keepIn K ↥C=true) (e:MF K C f v "__init__" q s) (b:∀(kV doc pm:Ma) (an:JK Mc) (cdv ct:Ma) (us:List Ma),us.length=ps.length->bindArgs (W.fnOf "__init__" q (dH s) (aV s) (az s) .none kV doc pm an cdv ct) #[us,[]]=pure (ps.zip us)):IniOk K C q s ps f (v.fn "__init__" q s):=Eg mk kc e.1 e.2.1 e.2.2.1 e.2.2.2.1 e.2.2.2.2 b
end
section
variable {p:List Ma->Prop}
def uq0 (h:p []) (us:List Ma) (hl:us.length=0):p us:=by
 cases us with
 | nil=>exact h
 | cons a r=>cases hl
def uq1 (h:∀a,p [a]) (us:List Ma) (hl:us.length=1):p us:=by
 cases us with
 | nil=>cases hl
 | cons a r=>exact uq0 (p:=λv=>p (a::v)) (h a) r (Nat.succ.inj hl)
def uq2 (h:∀a b,p [a,b]) (us:List Ma) (hl:us.length=2):p us:=by
 cases us with
 | nil=>cases hl
 | cons a r=>exact uq1 (p:=λv=>p (a::v)) (h a) r (Nat.succ.inj hl)
def uq3 (h:∀a b c,p [a,b,c]) (us:List Ma) (hl:us.length=3):p us:=by
 cases us with
 | nil=>cases hl
 | cons a r=>exact uq2 (p:=λv=>p (a::v)) (h a) r (Nat.succ.inj hl)
def uq4 (h:∀a b c d,p [a,b,c,d]) (us:List Ma) (hl:us.length=4):p us:=by
 cases us with
 | nil=>cases hl
 | cons a r=>exact uq3 (p:=λv=>p (a::v)) (h a) r (Nat.succ.inj hl)
def uq5 (h:∀a b c d e,p [a,b,c,d,e]) (us:List Ma) (hl:us.length=5):p us:=by
 cases us with
 | nil=>cases hl
 | cons a r=>exact uq4 (p:=λv=>p (a::v)) (h a) r (Nat.succ.inj hl)
def uq6 (h:∀a b c d e f,p [a,b,c,d,e,f]) (us:List Ma) (hl:us.length=6):p us:=by
 cases us with
 | nil=>cases hl
 | cons a r=>exact uq5 (p:=λv=>p (a::v)) (h a) r (Nat.succ.inj hl)
def uq7 (h:∀a b c d e f g,p [a,b,c,d,e,f,g]) (us:List Ma) (hl:us.length=7):p us:=by
 cases us with
 | nil=>cases hl
 | cons a r=>exact uq6 (p:=λv=>p (a::v)) (h a) r (Nat.succ.inj hl)
def uq8 (h:∀a b c d e f g h,p [a,b,c,d,e,f,g,h]) (us:List Ma) (hl:us.length=8):p us:=by
 cases us with
 | nil=>cases hl
 | cons a r=>exact uq7 (p:=λv=>p (a::v)) (h a) r (Nat.succ.inj hl)
def uq9 (h:∀a b c d e f g h i,p [a,b,c,d,e,f,g,h,i]) (us:List Ma) (hl:us.length=9):p us:=by
 cases us with
 | nil=>cases hl
 | cons a r=>exact uq8 (p:=λv=>p (a::v)) (h a) r (Nat.succ.inj hl)
end
local macro_rules | `(tactic| walk_at "u") => `(tactic| first | (exact λ _ _ _ _ _ _ => uq1 λ _ => rfl) | (exact λ _ _ _ _ _ _ => uq2 λ _ _ => rfl) | (exact λ _ _ _ _ _ _ => uq3 λ _ _ _ => rfl) | (exact λ _ _ _ _ _ _ => uq4 λ _ _ _ _ => rfl) | (exact λ _ _ _ _ _ _ => uq5 λ _ _ _ _ _ => rfl) | (exact λ _ _ _ _ _ _ => uq6 λ _ _ _ _ _ _ => rfl) | (exact λ _ _ _ _ _ _ => uq9 λ _ _ _ _ _ _ _ _ _ => rfl))
set_option maxHeartbeats 4000000 in
def txt_mk {K:Md} {h:Heap} {mg:Str->JK Ma} {C_Flows C_Step f0 f1 f2 f3 f4 f5 f6 f7 f8 f9 f10 f11 f12 f13 f14 f15 f16 f17 f18 f19 f20 f21 f22 f23 f24 f25 f26 f27 f28 f29 f30 f31 f32 f33 f34 f35 f36 f37 f38 f39 f40 f41 f42 f43 f44 f45 f46 f47 f48 f49 f50 f51 f52 f53 aT0 aT1 aD0 aD1:Mc} {y0 y1 y2 y3 y4 y5 y6 y7 y8 y9 y10 y11 y12 y13 y14 y15 y16 y17 y18 y19 y20 y21 y22 y23 y24 y25 y26 y27 y28 y29 y30 y31 y32 y33 y34 y35 y36 y37 y38 y39 y40 y41 y42 y43 y44 y45 y46 y47 y48 y49 y50 y51 y52 y53:Fv} (X:K.In h) (G:h.Ns mainGlobals mg)
   (aC_Flows:W.nsIn K mainGlobals "Flows"=⇑⇑↥C_Flows) (pg_Flows:W.plainGet K C_Flows Str.empty=true) (hd_Flows:W.hasDictIn K C_Flows=true) (po_Flows:W.plainOver K C_Flows=true) (sa_Flows:W.findIn K ↥C_Flows "__setattr__"=⇑⇑(.builtin "object.__setattr__")) (mk_Flows:W.makesIn K C_Flows=true) (kc_Flows:W.keepIn K ↥C_Flows=true)
   (n_Flows:NL (W.findIn K ↥C_Flows) ["last","number_of","folded_of","params_of","rows_of","names_in","ways_in"])
   (aC_Step:W.nsIn K mainGlobals "Step"=⇑⇑↥C_Step) (pg_Step:W.plainGet K C_Step Str.empty=true) (hd_Step:W.hasDictIn K C_Step=true) (po_Step:W.plainOver K C_Step=true) (sa_Step:W.findIn K ↥C_Step "__setattr__"=⇑⇑(.builtin "object.__setattr__")) (mk_Step:W.makesIn K C_Step=true) (kc_Step:W.keepIn K ↥C_Step=true)
   (n_Step:NL (W.findIn K ↥C_Step) ["flows","spots","marks","act","chain","ahead","row","news"])
   (e0:NF K f0 y0 "names_of" km)
   (e1:NF K f1 y1 "reads" rF)
   (e2:NF K f2 y2 "gives" qL)
   (e3:NF K f3 y3 "atoms_of" qq)
   (e4:NF K f4 y4 "each_once" sW)
   (e5:NF K f5 y5 "ways" jX)
   (e6:NF K f6 y6 "begins_of" nJ)
   (e7:NF K f7 y7 "firsts_behind" kq)
   (e8:MF K C_Flows f8 y8 "__init__" "Flows.__init__" nt)
   (e9:MF K C_Flows f9 y9 "row_at" "Flows.row_at" qQ)
   (e10:MF K C_Flows f10 y10 "ways_at" "Flows.ways_at" rW)
   (e11:NF K f11 y11 "value" rQ)
   (e12:NF K f12 y12 "together" qD)
   (e13:NF K f13 y13 "put_through" lH)
   (e14:NF K f14 y14 "levels_of" sN)
   (e15:NF K f15 y15 "place_of" sP)
   (e16:NF K f16 y16 "moved" qJ)
   (e17:NF K f17 y17 "with_given" mQ)
   (e18:NF K f18 y18 "entered" m5)
   (e19:NF K f19 y19 "left_behind" pZ)
   (e20:NF K f20 y20 "asked_act" kQ)
   (e21:NF K f21 y21 "boxes_behind" kO)
   (e22:MF K C_Step f22 y22 "__init__" "Step.__init__" gY)
   (e23:MF K C_Step f23 y23 "stands" "Step.stands" iQ)
   (e24:MF K C_Step f24 y24 "goes" "Step.goes" mF)
   (e25:MF K C_Step f25 y25 "comes_on" "Step.comes_on" rT)
   (e26:MF K C_Step f26 y26 "arrives" "Step.arrives" pG)
   (e27:MF K C_Step f27 y27 "is_wait" "Step.is_wait" rD)
   (e28:MF K C_Step f28 y28 "shows" "Step.shows" lP)
   (e29:NF K f29 y29 "spot_holds" qe)
   (e30:NF K f30 y30 "_law_cell_at" rO)
   (e31:NF K f31 y31 "_law_value" sJ)
   (e32:NF K f32 y32 "_law_names" ja)
   (e33:NF K f33 y33 "_law_some" rM)
   (e34:NF K f34 y34 "_law_through" kL)
   (e35:NF K f35 y35 "_law_view" nU)
   (e36:NF K f36 y36 "_law_sets" nW)
   (e37:NF K f37 y37 "_law_news" mW)
   (e38:NF K f38 y38 "_law_landing" kR)
   (e39:NF K f39 y39 "_law_held" lQ)
   (e40:NF K f40 y40 "_law_atom" sM)
   (e41:NF K f41 y41 "_law_program" iK)
   (e42:NF K f42 y42 "_law_of" ox)
   (e43:NF K f43 y43 "_law_row" qp)
   (e44:NF K f44 y44 "_law_chain" lC)
   (e45:NF K f45 y45 "_law_behind" iu)
   (e46:NF K f46 y46 "_law_next" my)
   (e47:NF K f47 y47 "_law_act" fU)
   (e48:NF K f48 y48 "_law_right" ii)
   (e49:NF K f49 y49 "_law_flat" nA)
   (e50:NF K f50 y50 "_law_arrival" ik)
   (e51:NF K f51 y51 "_law_turned_about" mX)
   (e52:NF K f52 y52 "_law_asked" oI)
   (e53:NF K f53 y53 "law" g7)
   {tk0:Tok} (w0:W.nsIn K mainGlobals "WIDE"=⇑⇑(.int 281474976710656 tk0))
   {odT0:JK Mc} {itT0:Array Ma} {nT0:Nat} {slT0:Array (JK Ma)} (q0:W.nsIn K mainGlobals "GIVING_KINDS"=⇑⇑↥aT0) (m0:K.lookup aT0=⇑#[.type "tuple",odT0,.seq itT0 nT0,slT0]) (v0:ao (K12.giving.map V.str) itT0.toList) (s0:itT0.size<=sizeLine)
   {odT1:JK Mc} {itT1:Array Ma} {nT1:Nat} {slT1:Array (JK Ma)} (q1:W.nsIn K mainGlobals "BROUGHT"=⇑⇑↥aT1) (m1:K.lookup aT1=⇑#[.type "tuple",odT1,.seq itT1 nT1,slT1]) (v1:ao [V.str "brought"] itT1.toList) (s1:itT1.size<=sizeLine)
   (qD0:W.nsIn K mainGlobals "ATOM_PLACES"=⇑⇑↥aD0) (mD0:PyProof.Rows.KTD.tabLook (mV K) (λa=>K.lookup a) aD0 K12.tabl=true)
   (qD1:W.nsIn K mainGlobals "FILLED_PLACES"=⇑⇑↥aD1) (mD1:PyProof.Rows.KTD.tabLook (nY K) (λa=>K.lookup a) aD1 [("get",3),("new",1),("wait",1)]=true)
   (zz:NL (W.nsIn K mainGlobals) ["len","list","tuple","isinstance","range","all","enumerate","dict","str","zip","bool","int","max","reversed"])
   : ∃t,Txt K mg t :=
 #[#[C_Flows,C_Step,f0,_,f1,_,f2,_,f3,_,f4,_,f5,_,f6,_,f7,_,f8,_,f9,_,f10,_,f11,_,f12,_,f13,_,f14,_,f15,_,f16,_,f17,_,f18,_,f19,_,f20,_,f21,_,f22,_,f23,_,f24,_,f25,_,f26,_,f27,_,f28,_,f29,_,f30,_,f31,_,f32,_,f33,_,f34,_,f35,_,f36,_,f37,_,f38,_,f39,_,f40,_,f41,_,f42,_,f43,_,f44,_,f45,_,f46,_,f47,_,f48,_,f49,_,f50,_,f51,_,f52,_,f53,_,aT0,aT1,aD0,aD1],#[bV X G e0 0x7,bV X G e1 0x7,bV X G e2 0x7,bV X G e3 0x7,bV X G e4 0x7,bV X G e5 0x7,bV X G e6 0x7,bV X G e7 0x7,uT mk_Flows kc_Flows e8 0x7,iB e9 0x7,iB e10 0x7,bV X G e11 0x7,bV X G e12 0x7,bV X G e13 0x7,bV X G e14 0x7,bV X G e15 0x7,bV X G e16 0x7,bV X G e17 0x7,bV X G e18 0x7,bV X G e19 0x7,bV X G e20 0x7,bV X G e21 0x7,uT mk_Step kc_Step e22 0x7,iB e23 0x7,iB e24 0x7,iB e25 0x7,iB e26 0x7,iB e27 0x7,iB e28 0x7,bV X G e29 0x7,bV X G e30 0x7,bV X G e31 0x7,bV X G e32 0x7,bV X G e33 0x7,bV X G e34 0x7,bV X G e35 0x7,bV X G e36 0x7,bV X G e37 0x7,bV X G e38 0x7,bV X G e39 0x7,bV X G e40 0x7,bV X G e41 0x7,bV X G e42 0x7,bV X G e43 0x7,bV X G e44 0x7,bV X G e45 0x7,bV X G e46 0x7,bV X G e47 0x7,bV X G e48 0x7,bV X G e49 0x7,bV X G e50 0x7,bV X G e51 0x7,bV X G e52 0x7,bV X G e53 0x7,#[#[pg_Flows,hd_Flows,po_Flows,sa_Flows],W.mg_of X G aC_Flows],#[#[pg_Step,hd_Step,po_Step,sa_Step],W.mg_of X G aC_Step],n_Flows.1,n_Flows.2.1,n_Flows.2.2.1,n_Flows.2.2.2.1,n_Flows.2.2.2.2.1,n_Flows.2.2.2.2.2.1,n_Flows.2.2.2.2.2.2.1,n_Step.1,n_Step.2.1,n_Step.2.2.1,n_Step.2.2.2.1,n_Step.2.2.2.2.1,n_Step.2.2.2.2.2.1,n_Step.2.2.2.2.2.2.1,n_Step.2.2.2.2.2.2.2.1,#[_,W.mg_of X G w0],W.mg_of X G q0,λH=>.inr #[_,itT0,nT0,m0,7,s0,v0],W.mg_of X G q1,λH=>.inr #[_,itT1,nT1,m1,7,s1,v1],W.mg_of X G qD0,Bk mD0,W.mg_of X G qD1,Hl mD1,W.mg_none_of X G zz.1,W.mg_none_of X G zz.2.1,W.mg_none_of X G zz.2.2.1,W.mg_none_of X G zz.2.2.2.1,W.mg_none_of X G zz.2.2.2.2.1,W.mg_none_of X G zz.2.2.2.2.2.1,W.mg_none_of X G zz.2.2.2.2.2.2.1,W.mg_none_of X G zz.2.2.2.2.2.2.2.1,W.mg_none_of X G zz.2.2.2.2.2.2.2.2.1,W.mg_none_of X G zz.2.2.2.2.2.2.2.2.2.1,W.mg_none_of X G zz.2.2.2.2.2.2.2.2.2.2.1,W.mg_none_of X G zz.2.2.2.2.2.2.2.2.2.2.2.1,W.mg_none_of X G zz.2.2.2.2.2.2.2.2.2.2.2.2.1,W.mg_none_of X G zz.2.2.2.2.2.2.2.2.2.2.2.2.2.1,λs u=>.of_eq rfl]]
end K45
end
open PySem PySem.W PyProof.Rows
set_option maxRecDepth 100000 in
set_option maxHeartbeats 0 in
theorem PySem.Challenge.cw_stopglass_k45_calls_and_backs_held_holds : PySem.Challenge.rw_stopglass_k45_calls_and_backs_held.Holds := by
 refine Hd.pk.2 ?_
 unfold Hd.pk
 dsimp only
 k_fill
 refine L2.walk_ofK (l:=PySem.Challenge.rw_stopglass_k45_calls_and_backs_held) (n:=63) (k:=21) (x:="_law_script") (CX:=L2.CX0) (sp:=K45.sp_law) rfl (by decide) rfl ⟨rfl,by decide,by decide⟩ (λw h Y=>PySem.W.kIn_of Y) ?F ?S ?C
 case F =>
   intro w mg fa h KX G hmg;have T:∃t,K45.Txt (L2.KOf KX) mg t:=by
     dsimp only[L2.KOf];apply K45.txt_mk KX G
     (iterate 71 (first|(apply K45.nf_mk <;> k_is)|(apply K45.mf_mk <;> k_is)|((repeat refine K45.nl_c (by k_is) ?_); exact trivial)|k_is))
     (iterate 2 k_is)
     . (repeat (first|exact .nil|refine .cons ⟨_,rfl⟩ ?_))
     . decide
     (iterate 2 k_is)
     . (repeat (first|exact .nil|refine .cons ⟨_,rfl⟩ ?_))
     . decide
     . k_is
     . kernel_rfl
     . k_is
     . kernel_rfl
     (repeat refine K45.nl_c (by k_is) ?_)
     exact trivial
   obtain⟨t,T⟩:=T;have e0:=hmg.symm.trans T.law.g;cases e0;exact⟨t.oZ,T.bl,λbase kb nb=>K45.ok_law T⟩
 case S=>exact λK H a ns hl hO hS=>⟨a,ns,rfl,hS,hl,λ_=>rfl⟩
 case C=>exact λ_ _ _ _ z=>z
