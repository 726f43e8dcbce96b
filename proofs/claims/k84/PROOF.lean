import PyProof.Rows.All
import Wide.All
import OpenK.AllK
import Wide.FinOn
import Lean
import PyProof.EqAt
import PyProof.EqKinds
import PyProof.TupleCall
import KE.KDictLaws
import KE.KDictOf
import KE.KEqDict
import KE.BitLaws
import PyProof.ZipIter
import PyProof.Rows.ZipGen
import PyProof.Rows.StrSplitAre
import PyProof.ExcInit
import PyProof.ExcBaseAll.ValueError
import PyProof.PassesOwn
import PyProof.StationsW
import PyProof.InstStoreFacts
import PyProof.ExcAttrAll.ValueError
import PyProof.NsDelKeeps
import KE.KListMore
import PyProof.P3Eq
import PyProof.Rows.TupDisplay
import PyProof.StrLawsReplace
import PyProof.StrCalls6
import PyProof.Rows.StrStrike
import KE.KIntText
import KE.IntTextText
import PySem.Challenge.RW_stopglass_k84_whole_unpacked_is_packed
set_option Elab.async false
set_option linter.all false
set_option maxRecDepth 100000
section
namespace Hd
open PySem PySem.W PyProof.Rows
lay_quick PySem.W.topFrom
noncomputable abbrev TQ := PySem.W.Fast.tw370005188180407882 PySem.W.Fast.tw14364793385576792824
noncomputable abbrev OQ := PySem.W.Fast.tw4187177175401517315
noncomputable abbrev tp : Program := PySem.Challenge.pw_stopglass_k84_whole_unpacked_is_packed
abbrev lo : List Str := [PySem.Str.ofString "ATOM_PLACES"]
def keeps : PySem.Stmt → Bool
 | .Assign [.Name x _] _ _ => !decide (x = "__name__")
 | _ => true
def viewOf (p : Program) : Program := { p with main := { p.main with body := p.main.body.filter keeps } }
abbrev Xf : Program → Shared → Bool := (fun p s => xlAt (viewOf p) [] s && recOk (RowW.records (OpenRow.toRowW (OpenLaw.row PySem.Challenge.rw_stopglass_k84_whole_unpacked_is_packed))) s)
noncomputable def S0 (w : World) (os : OsState) : Shared := ⟨boot_heap w.params, Array.mk [], boot_drawn, boot_toks, os⟩
theorem ws : PySem.Challenge.rw_stopglass_k84_whole_unpacked_is_packed.wellSaid = true := by kernel_rfl
section
local macro_rules | `(tactic| o_head $H) => `(tactic| (case Hk => exact $H))
noncomputable def hk : (H : Hook) ×' ((∀ P : Prop, P) → PySem.Challenge.rw_stopglass_k84_whole_unpacked_is_packed.Holds) := by
 refine ⟨?Hk, fun h => ?m⟩
 rotate_left
 w_on; refine holds_law ws fun said => ?_; k_head; exact h _
end
theorem opt3 {σ α β γ : Type} {x : Option σ} {f : σ → α × β} {g : σ → γ} {a : α × β} {c : γ} (h1 : x.map (fun s => (f s).1) = some a.1) (h2 : x.map (fun s => (f s).2) = some a.2) (h3 : x.map g = some c) : x.map (fun s => (f s, g s)) = some (a, c) := by
 cases x with
 | none => cases h1
 | some s =>
  have e1 : (f s).1 = a.1 := Option.some.inj h1
  have e2 : (f s).2 = a.2 := Option.some.inj h2
  have e3 : g s = c := Option.some.inj h3
  show some (f s, g s) = some (a, c)
  rw [show f s = a from Prod.ext e1 e2, e3]
theorem r0a : ∀ (w : World) (os : OsState), (TQ tp (w.withFollow "special-get-raises" false) 20000 (S0 (w.withFollow "special-get-raises" false) os)).map (fun s => (OQ (viewOf tp) lo (importedModules tp.main.body) (Xf tp) true s).1) = some (openGood (viewOf tp) lo).1 := by
 intro w os; kernel_rfl
theorem r0b : ∀ (w : World) (os : OsState), (TQ tp (w.withFollow "special-get-raises" false) 20000 (S0 (w.withFollow "special-get-raises" false) os)).map (fun s => (OQ (viewOf tp) lo (importedModules tp.main.body) (Xf tp) true s).2) = some (openGood (viewOf tp) lo).2 := by
 intro w os; kernel_rfl
theorem r0c : ∀ (w : World) (os : OsState), (TQ tp (w.withFollow "special-get-raises" false) 20000 (S0 (w.withFollow "special-get-raises" false) os)).map (fun s => Hook.obs hk.1 s) = some (Hook.val hk.1 (w.withFollow "special-get-raises" false)) := by
 intro w os; kernel_rfl
theorem r0 : ∀ (w : World) (os : OsState), (TQ tp (w.withFollow "special-get-raises" false) 20000 (S0 (w.withFollow "special-get-raises" false) os)).map (fun s => (OQ (viewOf tp) lo (importedModules tp.main.body) (Xf tp) true s, Hook.obs hk.1 s)) = some (openGood (viewOf tp) lo, Hook.val hk.1 (w.withFollow "special-get-raises" false)) := fun w os => opt3 (r0a w os) (r0b w os) (r0c w os)
theorem r1a : ∀ (w : World) (os : OsState), (TQ tp (w.withFollow "special-get-raises" true) 20000 (S0 (w.withFollow "special-get-raises" true) os)).map (fun s => (OQ (viewOf tp) lo (importedModules tp.main.body) (Xf tp) true s).1) = some (openGood (viewOf tp) lo).1 := by
 intro w os; kernel_rfl
theorem r1b : ∀ (w : World) (os : OsState), (TQ tp (w.withFollow "special-get-raises" true) 20000 (S0 (w.withFollow "special-get-raises" true) os)).map (fun s => (OQ (viewOf tp) lo (importedModules tp.main.body) (Xf tp) true s).2) = some (openGood (viewOf tp) lo).2 := by
 intro w os; kernel_rfl
theorem r1c : ∀ (w : World) (os : OsState), (TQ tp (w.withFollow "special-get-raises" true) 20000 (S0 (w.withFollow "special-get-raises" true) os)).map (fun s => Hook.obs hk.1 s) = some (Hook.val hk.1 (w.withFollow "special-get-raises" true)) := by
 intro w os; kernel_rfl
theorem r1 : ∀ (w : World) (os : OsState), (TQ tp (w.withFollow "special-get-raises" true) 20000 (S0 (w.withFollow "special-get-raises" true) os)).map (fun s => (OQ (viewOf tp) lo (importedModules tp.main.body) (Xf tp) true s, Hook.obs hk.1 s)) = some (openGood (viewOf tp) lo, Hook.val hk.1 (w.withFollow "special-get-raises" true)) := fun w os => opt3 (r1a w os) (r1b w os) (r1c w os)
theorem left_twin {p p' : Program} {F : Program → Program} {X : Program → Shared → Bool} {loose : List Str} {α : Type} {Yf : Shared → α} {Ya : World → α} {N : Nat} {g0 : Bool} (row : String) (ep : p = p') (e : opening p = plainProg p.main.scope.names) (hN : Nat.ble 600 N = true) (f : ∀ s, fenceModules? p s = some s)
  (h0 : ∀ (w : World) (os : OsState), (TQ p' (w.withFollow row false) N (S0 (w.withFollow row false) os)).map (fun s => (OQ (F p') loose (importedModules p'.main.body) (X p') g0 s, Yf s)) = some (openGood (F p') loose, Ya (w.withFollow row false)))
  (h1 : ∀ (w : World) (os : OsState), (TQ p' (w.withFollow row true) N (S0 (w.withFollow row true) os)).map (fun s => (OQ (F p') loose (importedModules p'.main.body) (X p') g0 s, Yf s)) = some (openGood (F p') loose, Ya (w.withFollow row true))) : LeftO p (F p) loose (X p) Yf Ya N g0 := fun w => by
 subst ep
 have key : ∀ b, (openEnds treeTable p (w.withFollow row b) N).map (fun s => (openSeen (F p) loose (importedModules p.main.body) (X p) g0 s, Yf s)) = some (openGood (F p) loose, Ya (w.withFollow row b)) := by
  intro b
  obtain ⟨s, hs, hv⟩ := Option.map_eq_some_iff.mp (boot_open e hN f (w.withFollow row b))
  have es : s = S0 (w.withFollow row b) s.os := by
   cases s
   simp only [Prod.mk.injEq] at hv
   obtain ⟨a1, a2, a3, a4⟩ := hv
   subst a1 a2 a3 a4
   rfl
  unfold openEnds
  rw [hs, es, PySem.W.Fast.te370005188180407882, PySem.W.Fast.te14364793385576792824, PySem.W.Fast.te4187177175401517315]
  cases b
  . exact h0 w s.os
  . exact h1 w s.os
 have e0 := World.withFollow_self w row
 have := key (w.params.followText row)
 rwa [e0] at this
theorem left : LeftO PySem.Challenge.pw_stopglass_k84_whole_unpacked_is_packed (viewOf PySem.Challenge.pw_stopglass_k84_whole_unpacked_is_packed) lo (Xf PySem.Challenge.pw_stopglass_k84_whole_unpacked_is_packed) (Hook.obs hk.1) (Hook.val hk.1) 20000 true :=
 left_twin (p := PySem.Challenge.pw_stopglass_k84_whole_unpacked_is_packed) (p' := tp) (F := viewOf) (X := Xf) (loose := lo) (Yf := Hook.obs hk.1) (Ya := Hook.val hk.1) (N := 20000) (g0 := true) "special-get-raises" rfl (by kernel_rfl) (by decide) (fun s => by kernel_rfl) r0 r1
theorem left_of {H : Hook} (e : H = hk.1) : LeftO PySem.Challenge.pw_stopglass_k84_whole_unpacked_is_packed (viewOf PySem.Challenge.pw_stopglass_k84_whole_unpacked_is_packed) lo (Xf PySem.Challenge.pw_stopglass_k84_whole_unpacked_is_packed) (Hook.obs H) (Hook.val H) 20000 true := by subst e; exact left
local macro_rules | `(tactic| o_head $H) => `(tactic| (
 refine holds_open (q := viewOf PySem.Challenge.pw_stopglass_k84_whole_unpacked_is_packed) (loose := lo) (Xt := Xf PySem.Challenge.pw_stopglass_k84_whole_unpacked_is_packed) (XP := XL (viewOf PySem.Challenge.pw_stopglass_k84_whole_unpacked_is_packed) []) (Yf := Hook.obs $H) (Ya := Hook.val $H) (YP := Hook.says $H) (N := 20000) ?hl (Hook.of $H) (Hook.keeps $H) (fun s e => xl_of s (Bool.and_eq_true_iff.mp e).1) XL.keeps (by rfl) (by rfl) (by rfl) (fun s e => recFacts_of (Bool.and_eq_true_iff.mp e).2) (by rfl) (by assumption) (by decide +kernel) ⟨rfl, rfl, rfl, rfl, rfl, by decide +kernel⟩ ?hw ?hc
 (case hl => exact left_of (H := $H) (by kernel_rfl))))
set_option maxHeartbeats 0 in
noncomputable def pk : (G : Prop) ×' (G → PySem.Challenge.rw_stopglass_k84_whole_unpacked_is_packed.Holds) := by
 refine' ⟨_, fun h => _⟩
 rotate_left
 w_on; refine holds_law ws fun said => ?_; k_head; (case hw => w_witness2)
 exact h
end Hd
end
open List renaming length_map->J7,map_append->JB,length_append->JE,mem_singleton->JK,mem_cons->JS,size_toArray->JV,mem_map->JW,length_cons->JX,length_range->JY,mem_append->JZ,mem_cons_of_mem->Jc,mem_cons_self->Je,take_length->Jh,mem_append_right->Jk,append_assoc->Jl,map_map->Jm,length_take->Jp,append_nil->Jq,take_add_one->Jr,map_cons->Jv,mem_flatMap->Jw,range_succ->Jy,getElem_mem->K2,flatMap_append->K6,length_pos_iff->K7,flatten_cons->K8,mem_range->KA,foldl_append->KD,length_eq_zero_iff->KF,flatMap_cons->KN,nodup_cons->KO,length_replicate->KP,map_congr_left->KU,lookup_cons->Kb,mem_append_left->Kh,length_set->Ko,length_drop->Kt,all_eq_true->Ku,filterMap_cons->Kv,replicate_succ->Kw,flatten_append->Kx,length_nil->L0,drop_eq_nil_of_le->L7,mem_flatten->LA,foldl_cons->LF,map_replicate->LM,mem_replicate->LN,nodup_append->LU,pairwise_lt_range->LV,take_of_length_le->LW,any_cons->LX,not_mem_nil->LY,cons_ne_nil->La,flatMap_nil->Lb,map_flatten->Lc,length_flatten->Lm,map_eq_nil_iff->Ln,pairwise_map->Ly,mem_or_eq_of_mem_set->M0,map_nil->M7,flatMap_eq_nil_iff->MJ,of_mem_zip->MM,nil_append->MN,forIn_cons->MO
open PySem renaming wpAny_bind->J8,wpAny_pure->JO,wpAny_field->Jt,wpAny_newObj_type->KL,wpAny_loadPart_at->KM,wpAny_truthy_bool->KS,wpAny_holding->KY,wpAny_call_entry->Ka,wpAny_pyIter_tuple->Kc,wpAny_mono->Ki,wpAny_pyIter_list->Kj,wpAny_seqItems->Kk,wpAny_setField_rec->Km,wpAny_passesOwn->Kn,wpAny_isSubtype_exc->Ky,wpAny_Call_Name_kw->Kz,wpAny_setField->L9,wpAny_standAt->LB,wpAny_pyIter_enum->LS,wpAny_isTrue_Compare1->Ld,wpAny_execs_nil->Le,wpAny_typeOf->Lf,wpAny_updateSeq_pair->Lh,wpAny_ite_true->Lq,wpAny_letOwnedTupleGo_enum->Lu,wpAny_onRaise->Lv,wpAny_sequenceKey->Lw,wpAny_execs_cons->M3,codeAny_mono->M4,wpAny_comprehension_free->M8,wpAny_Call_method0_late->ME,wpAny_pyNext_enum_itemD->MF,wpAny_call->MR
open Nat renaming le_refl->JG,lt_of_lt_of_le->Jb,zero_le->Jd,ne_of_lt->Jn,le_trans->Jo,not_lt_zero->Js,lt_irrefl->Ju,lt_or_ge->Jx,mul_le_mul_right->KB,lt_succ_self->KG,le_succ->Kf,ne_of_gt->Kl,min_eq_left->L6,zero_add->LI,pow_succ->LJ,add_sub_cancel_left->LQ,le_add_right->LZ,zero_lt_one->Lj,lt_succ_of_lt->Lx,le_of_lt->M1,mul_comm->M6,min_eq_right->M9,pow_zero->MB,sub_self->MC,mul_one->MQ,add_assoc->MS
open PySem.F renaming plainAttrs_list->JN,slot_list_append->JQ,type_list_append->JR,plainAttrs_str->KW,excBase_ValueError->KZ,slot_str_join->Kd,type_str_join->Ke,slot_tuple_iterator_next->Kq,slot_list_getattribute->LH,slot_zip_next->Li,slot_dict_itemiterator_iter->Lk,args_tuple_iterator_next_1->Lo,slot_dict_setdefault->Lp,entry_tuple_iterator_next->Lr,args_tuple_add_2->M5,entry_tuple_add->MD,plainAttrs_dict->MH,slot_dict_items->MI,slot_list_clear->MK,type_list_clear->ML
open Bool renaming false_ne_true->JP,and_eq_true->Jf,eq_iff_iff->K5,and_false->LO,or_false->Ls,or_eq_true->MP
open Int renaming eq_ofNat_of_zero_le->JT,zero_add->Ji,toNat_natCast->K3,fdiv_eq_ediv_of_nonneg->LC
open PySem.Heap renaming lt_size->JU,size_push->KJ
open PyProof.Rows renaming slot_tuple_getitem->K9,callWith_type1->KE
open Option renaming isSome_iff_exists->Ks,map_some->Lg,bind_some->MA
open List.Pairwise renaming imp_of_mem->LK
open Array renaming length_toList->Ll
abbrev J9:=@List.mem_of_getElem?
abbrev JA:=@List.getElem?_eq_getElem
abbrev JC:=@List.getElem?_map
abbrev JD:=@PySem.Heap.get?_push_of_some
abbrev JF:=@List.getElem?_eq_some_iff
abbrev JH:=@List.getD_eq_getElem?_getD
abbrev JI:=@if_neg
abbrev JJ:=@if_pos
abbrev JL:=@decide_eq_true_eq
abbrev Ja:=@PySem.Heap.get?_push_size
abbrev Jg:=@decide_eq_true
abbrev Jj:=@congrArg
abbrev Jz:=@List.getElem?_eq_none
abbrev J':=@decide_eq_false
abbrev K0:=@List.getElem?_of_mem
abbrev K1:=@List.getElem?_append_right
abbrev K4:=@PySem.Heap.get?_update_other
abbrev KC:=@List.getElem?_append_left
abbrev KH:=@Array.getElem?_eq_some_iff
abbrev KI:=@List.getElem?_set_self
abbrev KQ:=@PySem.Heap.get?_update_self
abbrev KR:=@List.getElem?_set_ne
abbrev Kg:=@PySem.Heap.get?_none_of_le
abbrev Kr:=@List.getElem?_eq_none_iff
abbrev K':=@List.find?_cons
abbrev L8:=@List.getElem?_inj
abbrev LD:=@List.getElem?_range
abbrev LG:=@List.getElem?_take_of_lt
abbrev LP:=@beq_iff_eq
abbrev LR:=@of_decide_eq_true
abbrev Lz:=@List.ext_getElem?
abbrev L':=@PySem.wpAny_rule
local macro_rules | `(tactic| walk_at "l") => `(tactic| (rw[JL]; lia))
local macro_rules | `(tactic| walk_at "f") => `(tactic| (first|exact .inl rfl|exact .inr rfl|assumption))
local macro_rules | `(tactic| walk_at "s") => `(tactic| exact ⟨rfl, rfl, rfl, by decide +kernel, rfl, by decide +kernel, by decide +kernel⟩)

set_option genSizeOf false
set_option bootstrap.genMatcherCode false
set_option compiler.extract_closed false
section
open Lean in
local macro_rules(kind:=Lean.Parser.Command.declaration)|s=>do{let d:=s[1];if s[0].getArgs.any fun x=>!x.getArgs.isEmpty then{Macro.throwUnsupported};let q←`(command|noncomputable def x:=y);let r:Syntax←(match d.getKind with|``Parser.Command.definition=>pure (s.setArg 1 (mkNode ``Parser.Command.theorem #[mkAtom "theorem ",d[1],mkNode ``Parser.Command.declSig #[d[2][0],d[2][1][0]],d[3]]))|``Parser.Command.abbrev=>if d[3][1].isOfKind ``Parser.Term.explicit then Macro.throwUnsupported else pure (mkNode s.getKind #[q.raw[0],mkNode ``Parser.Command.definition #[mkAtom "def ",d[1],d[2],d[3],mkNullNode]])|_=>Macro.throwUnsupported);return r.rewriteBottomUp fun x=>x.setInfo .none}
local macro_rules|`(#[$x,*])=>do{if x.getElems.isEmpty then{return ← `(by decide)};let mut a:Array Lean.Term:= .empty;for e in x.getElems do{let l:=(e.raw.isLit? `num).getD "0";if l.front=='0' then{a:=a.push e}else{for c in(Nat.toDigits 2 l.toNat!).tail do{a:=a.push (← if c=='1' then`(rfl)else`(_))}}};`(⟨$a,*⟩)}
local macro_rules|`(∅)=>`(by lia)
local macro_rules|`(tactic|let#[$x,*]:=$e)=>do{let a←x.getElems.mapM fun|`(_)=>`(rcasesPat|_)|`($i:ident)=>`(rcasesPat|$i:ident)|_=>Lean.Macro.throwUnsupported;`(tactic|obtain⟨$[$a:rcasesPat],*⟩:=$e)}
local macro_rules|`(tactic|show#[$x,*])=>`(tactic|refine#[$x,*])
local macro_rules|`(⇑$x)=>`(some $x)|`(↑$x)=>`(by simpa using $x)|`(↥$x)=>`(.ref $x)
local macro_rules|`($a\$b)=>`(($a).trans $b)|`($a*>$b)=>`(($a).mono $b)|`($a<*$b)=>`(($a).tup $b)
set_option hygiene false in
local macro_rules|`(0x0)=>`((Or.inl rfl))|`(0x1)=>`(by rfl)|`(0x2)=>`(by walk_at "f")|`(0x3)=>`((show ay _ (.builtin "len") (bW K) from bb))|`(0x4)=>`((show aN _ (am K) from ap))|`(0x5)=>`((λ_ _=>rfl))|`(0x6)=>`((show aN _ (bC K) from bF))|`(0x7)=>`((model X.prog X.w))|`(0x8)=>`((bJ (ao P w) P w K mg base N qual sc f cd A outer s0 H0 E))|`(0x9)=>`((model prog w))|`(0xA)=>`(by decide +kernel)|`(0xB)=>`(by simp)|`(0xC)=>`((hr*>#[]))
noncomputable abbrev JM:=Option
noncomputable abbrev MT:=PySem.Value
noncomputable abbrev MU:=PySem.Shared
noncomputable abbrev MV:=PySem.Addr
noncomputable abbrev MW:=PySem.W.Frag
namespace K11
end K11
namespace K14
end K14
namespace L2
open PySem PySem.Spec PyProof.Rows
noncomputable abbrev aP:=Sum Int Str
abbrev jM:aP->MT->Bool
 | .inl k,v=>Value.isInt k v
 | .inr x,v=>Value.isStrOf x v
abbrev Ge (w:World):aP->Int
 | .inl k=>hashInt k
 | .inr x=>hashStr w x
def hG:∀{k:aP} {v:MT},jM k v=true->(∃i t,k=Sum.inl i/\v=Value.int i t)\/(∃x t,k=Sum.inr x/\v=Value.str x t)
 | .inl i,v,h=>by let#[t,e]:=Value.isInt_shape (k:=i) (v:=v) h;exact .inl #[i,t,rfl,e]
 | .inr x,v,h=>by let#[t,e]:=Value.isStrOf_shape (x:=x) (v:=v) h;exact .inr #[x,t,rfl,e]
def Dn (i:Int) (t:Tok):jM (.inl i) (.int i t)=true:=by simp [jM,Value.isInt]
def BZ (x:Str) (t:Tok):jM (.inr x) (.str x t)=true:=by simp [jM,Value.isStrOf]
def FB (a b:Int):decide ((Sum.inl a:aP)=Sum.inl b)=(a==b):=by
 by_cases e:a=b
 . subst e; simp
 . have h:¬ (Sum.inl a:aP)=Sum.inl b:=λq=>e (Sum.inl.inj q);rw[J' h];exact(beq_eq_false_iff_ne.mpr e).symm
def F7 (a b:Str):decide ((Sum.inr a:aP)=Sum.inr b)=decide (a=b):=by
 by_cases e:a=b
 . subst e; simp
 . have h:¬ (Sum.inr a:aP)=Sum.inr b:=λq=>e (Sum.inr.inj q);rw[J' h,J' e]
def B3 (a:Int) (b:Str):decide ((Sum.inl a:aP)=Sum.inr b)=false:=J' (λq=>nomatch q)
def BX (a:Str) (b:Int):decide ((Sum.inr a:aP)=Sum.inl b)=false:=J' (λq=>nomatch q)
abbrev ce (prog:Program) (w:World):PySem.KeyKind prog w aP where
 is:=jM
 hash:=Ge w
 inj:=λv a b ha hb=>by
   rcases hG ha with⟨i,t,rfl,rfl⟩|⟨x,t,rfl,rfl⟩
   . rcases hG hb with⟨j,u,rfl,e⟩|⟨y,u,rfl,e⟩
     . injection e with e1 _; rw[e1]
     . exact nomatch e
   . rcases hG hb with⟨j,u,rfl,e⟩|⟨y,u,rfl,e⟩
     . exact nomatch e
     . injection e with e1 _; rw[e1]
 byValue:=λk v h=>by rcases hG h with⟨i,t,rfl,rfl⟩|⟨x,t,rfl,rfl⟩ <;> rfl
 pyHash:=λhv h=>by
   rcases hG hv with⟨i,t,rfl,rfl⟩|⟨x,t,rfl,rfl⟩
   . exact wpAny_pyHash_int h
   . exact wpAny_pyHash_str h
 eqBool:=λhu hv h=>by
   rcases hG hu with⟨i,t,rfl,rfl⟩|⟨x,t,rfl,rfl⟩
   . rcases hG hv with⟨j,u,rfl,rfl⟩|⟨y,u,rfl,rfl⟩
     . rw[FB] at h; exact wpAny_eqBool_int h
     . rw[B3] at h; exact SeqAt.EqAt.int_str i t y u _ _ _ _ h
   . rcases hG hv with⟨j,u,rfl,rfl⟩|⟨y,u,rfl,rfl⟩
     . rw[BX] at h; exact SeqAt.EqAt.str_int x t j u _ _ _ _ h
     . rw[F7] at h; exact wpAny_eqBool_str h
 «strs»:=λk x t v h=>by
   rcases hG h with⟨i,u,rfl,e⟩|⟨y,u,rfl,e⟩
   . exact nomatch e
   . injection e with e1 _
     subst e1;cases v <;> rfl
def CD (prog:Program) (w:World) (i:Int) (t:Tok):(ce prog w).is (.inl i) (.int i t)=true:=Dn i t
def GJ (prog:Program) (w:World) (x:Str) (t:Tok):(ce prog w).is (.inr x) (.str x t)=true:=BZ x t
inductive V where
 | non|bl (b:Bool)|int (i:Int)|str (x:Str)|byt (b:Array UInt8)|flt (b:UInt64)|ref (a:Addr)|ty (n:String)
 deriving DecidableEq
abbrev af:V->MT->Prop
 | .non,u=>u=Value.none
 | .bl b,u=>u=Value.bool b
 | .int i,u=>∃t,u=Value.int i t
 | .str x,u=>∃t,u=Value.str x t
 | .byt b,u=>∃t,u=Value.bytes b t
 | .flt b,u=>∃t,u=Value.float b t
 | .ref a,u=>u=Value.ref a
 | .ty n,u=>u=Value.type n
noncomputable abbrev aV:List V->List MT->Prop:=Paired af
def aV.length {xs:List V} {us:List MT} (r:aV xs us):xs.length=us.length:=Paired.length r
def aV.get:∀{xs:List V} {us:List MT} {i:Nat} {x:V},aV xs us->xs[i]?=⇑x->∃u,us[i]?=⇑u/\af x u:=by
 intro xs us i x h e
 induction h generalizing i with
 | nil=>simp at e
 | cons r t ih =>
   cases i with
   | zero=>simp at e; subst e; show#[5,r]
   | succ i =>
     let#[u,h1,h2]:=ih (i:=i) ↑e;show#[u,by simpa using h1,h2]
variable {u:MT}
def aV.set {x:V} (r:af x u):∀{xs:List V} {us:List MT} (i:Nat),aV xs us->aV (xs.set i x) (us.set i u):=by
 intro xs us i h
 induction h generalizing i with
 | nil=>exact .nil
 | cons q t ih =>
   cases i with
   | zero=>exact .cons r t
   | succ i=>exact .cons q (ih i)
def aV.append:∀{xs ys:List V} {us ws:List MT},aV xs us->aV ys ws->aV (xs++ys) (us++ws):=by
 intro xs ys us ws h s
 induction h with
 | nil=>exact s
 | cons r t ih=>exact .cons r ih
def aV.take:∀{xs:List V} {us:List MT} (n:Nat),aV xs us->aV (xs.take n) (us.take n)
 | _,_,0,_=>.nil
 | _,_,_+1,.nil=>.nil
 | _,_,n+1,.cons r t=>.cons r (aV.take n t)
def aV.drop:∀{xs:List V} {us:List MT} (n:Nat),aV xs us->aV (xs.drop n) (us.drop n)
 | _,_,0,r=>r
 | _,_,_+1,.nil=>.nil
 | _,_,n+1,.cons _ t=>aV.drop n t
def aV.none_of:∀{xs:List V} {us:List MT} {i:Nat},aV xs us->xs[i]?=none->us[i]?=none:=λ{xs us i} r e=>by have h1:=r.length;have h2:xs.length<=i:=Kr.mp e;exact Kr.mpr ∅
abbrev eX:JM V->JM MT->Prop
 | some v,⇑u=>af v u
 | none,none=>True
 | _,_=>False
abbrev KV {κ:Type}:List (κ×V)->List (κ×MT)->Prop:=Paired λ(p:κ×V) (q:κ×MT)=>p.1=q.1/\af p.2 q.2
abbrev kV:aP->V
 | .inl i=>.int i
 | .inr x=>.str x
inductive HO where
 | lst (xs:List V)
 | tup (xs:List V)
 | dK (kvs:List (aP×V))|dT (kvs:List (List aP×V))
 | set (S:Int->Bool) (n:Nat)
 | ins (C dx:Addr) (fs:List (Str×V))
 | own (x:Addr)
 | xd (fs:List (Str×V))
 | met (f x:Addr)
 | rng (lo hi:Int)
 | frz (o:Obj) (u:HO)
 | tbl (ps:Array Value)
 | ext (φ:Heap->Prop)
noncomputable abbrev Hp:=MV->JM HO
abbrev upd (H:Hp) (a:MV) (o:HO):Hp:=λb=>if b=a then ⇑o else H b
variable {H:Hp} {a:MV} {o:HO}
def aF :upd H a o a=⇑o:=by unfold upd; rw[JJ rfl]
variable {b:MV}
def aR (h:b≠a):upd H a o b=H b:=by unfold upd; rw[JI h]
def rW {u:HO}:upd (upd H a o) a u=upd H a u:=by funext b; unfold upd; split <;> rfl
def jB {u:HO}(h:H a=⇑o) (h':H b=⇑u) (d:o≠u):a≠b:=by intro e; subst e; rw[h] at h'; exact d (Option.some.inj h')
def aY (h:H a=⇑o) (h':H b=none):a≠b:=by intro e; subst e; rw[h] at h'; cases h'
section
variable (P:Program) (w:World)
abbrev cM (H:Hp) (h:Heap) (a:MV):HO->Prop
 | .lst xs=>xs.length<=sizeLine/\∃(its:List MT) (n:Nat),aV xs its/\h.get? a=some { cls:=.type "list",data:=.seq its.toArray n }
 | .tup xs=>xs.length<=sizeLine/\∃its:List MT,aV xs its/\IsTup h a its.toArray
 | .dK kvs=>kvs.length<=sizeLine/\(a==sysModules)=false/\∃vs,KV kvs vs/\h.DictOf (ce P w) a vs
 | .dT kvs=>kvs.length<=sizeLine/\(a==sysModules)=false/\∃xs:List (List aP×MV×MT),
     Paired (λ(p:List aP×V) (q:List aP×MV×MT)=>p.1=q.1/\H q.2.1=⇑(.tup (p.1.map kV))/\af p.2 q.2.2) kvs xs /\
     ∃o es ep,h.get? a=⇑o/\o.ExactDict/\o.data=.dict es ep/\es.toList=xs.map (entryOfKey (tupleKind (ce P w)))/\(xs.map (·.1)).Nodup
 | .set S n=>h.SetOf (intKind P w) a S n
 | .ins C dx fs=>H dx=⇑(.own a)/\fs.length<=1000/\dx≠a/\h.get? a=⇑(PySem.W.instObj C dx) /\
     ∃mA,h.Ns1 dx mA/\(∀f,eX (fs.lookup f) (mA f))/\PySem.Within mA (fs.map (·.1))
 | .own _=>∃o,h.get? a=⇑o
 | .xd fs=>∃mA,h.Ns1 a mA/\∀f,eX (fs.lookup f) (mA f)
 | .rng lo hi=>∃t u v,h.get? a=some { cls:=.type "range",data:=.fields (List.toArray [.int lo t,.int hi u,.int 1 v]) }
 | .frz o u=>h.get? a=⇑o/\cM H h a u
 | .tbl ps=>h.get? a=some { cls:=.none,data:=.fields ps }
 | .met f x=>h.get? a=⇑(PySem.W.methodObj ↥f ↥x)
 | .ext φ=>φ h/\(∃o,h.get? a=⇑o)/\∀h1 h2:Heap,φ h1->(∀o,h1.get? a=⇑o->h2.get? a=⇑o)->φ h2
abbrev bU (H:Hp) (h:Heap):Prop:=∀a o,H a=⇑o->cM P w H h a o
end
section
variable {P:Program} {w:World} {H H':Hp} {h h':Heap} {a:MV} {o:HO}
def cM.lt (x:cM P w H h a o):a<h.objs.size:=by
 cases o with
 | lst xs=>let#[_,_,_,_,e]:=x; exact JU e
 | tup xs=>let#[_,_,_,p]:=x; exact p.lt
 | dK kvs=>let#[_,_,_,_,o,_,_,e,_]:=x; exact JU e
 | dT kvs=>let#[_,_,_,_,o,_,_,e,_]:=x; exact JU e
 | set S n=>let#[o,_,_,_,e,_]:=x; exact JU e
 | ins C dx fs=>let#[_,_,_,e,_]:=x; exact JU e
 | own y=>let#[_,e]:=x; exact JU e
 | xd fs=>obtain⟨_,⟨_,_,_,e,_⟩,_⟩:=x; exact JU e
 | rng lo hi=>let#[_,_,_,e]:=x; exact JU e
 | frz ob u=>let#[e,_]:=x; exact JU e
 | tbl ps=>exact JU (show h.get? a=⇑_ from x)
 | met f y=>exact JU (show h.get? a=⇑_ from x)
 | ext φ=>obtain⟨_,⟨_,e⟩,_⟩:=x; exact JU e
def Paired.mapP {α β:Type} {F G:α->β->Prop}:∀{l₁:List α} {l₂:List β},Paired F l₁ l₂->(∀a b,F a b->G a b)->Paired G l₁ l₂:=by
 intro l₁ l₂ h f
 induction h with
 | nil=>exact .nil
 | cons r t ih=>exact .cons (f _ _ r) ih
def cM.stay (x:cM P w H h a o) (k:∀b u,(b=a\/H b=⇑(.own a))->h.get? b=⇑u->h'.get? b=⇑u)
   (ho:∀b,H b=⇑(.own a)->H' b=⇑(.own a)) (ht:∀b xs,H b=⇑(.tup xs)->H' b=⇑(.tup xs)):cM P w H' h' a o:=by
 induction o with
 | lst xs=>let#[z,its,n,r,e]:=x; show#[z,its,n,r,k _ _ (.inl rfl) e]
 | tup xs=>let#[z,its,r,ob,e,c]:=x; show#[z,its,r,ob,k _ _ (.inl rfl) e,c]
 | dK kvs=>let#[z,y,vs,r,ob,es,ep,e,c]:=x; show#[z,y,vs,r,ob,es,ep,k _ _ (.inl rfl) e,c]
 | dT kvs =>
   let#[z,y,xs,r,ob,es,ep,e,c]:=x;show#[z,y,xs,Paired.mapP r λp q z=>#[z.1,ht _ _ z.2.1,z.2.2],ob,es,ep,k _ _ (.inl rfl) e,c]
 | set S n=>let#[ob,es,ep,t,e,c]:=x; show#[ob,es,ep,t,k _ _ (.inl rfl) e,c]
 | ins C dx fs =>
   obtain⟨d,z,ne,e,mA,⟨od,es,ep,e2,c⟩,r⟩:=x;show#[ho _ d,z,ne,k _ _ (.inl rfl) e,mA,#[od,es,ep,k _ _ (.inr d) e2,c],r]
 | own y=>let#[ob,e]:=x; show#[ob,k _ _ (.inl rfl) e]
 | xd fs=>obtain⟨mA,⟨od,es,ep,e,c⟩,r⟩:=x; show#[mA,#[od,es,ep,k _ _ (.inl rfl) e,c],r]
 | rng lo hi=>let#[t,u,v,e]:=x; show#[t,u,v,k _ _ (.inl rfl) e]
 | frz ob u ih=>let#[e,q]:=x; show#[k _ _ (.inl rfl) e,ih q]
 | tbl ps =>
   have e:h.get? a=some { cls:=.none,data:=.fields ps }:=x;show h'.get? a=some { cls:=.none,data:=.fields ps };exact k a _ (.inl rfl) e
 | met f y =>
   have e:h.get? a=⇑(PySem.W.methodObj ↥f ↥y):=x;show h'.get? a=⇑(PySem.W.methodObj ↥f ↥y);exact k a _ (.inl rfl) e
 | ext φ=>obtain⟨p,⟨o,e⟩,st⟩:=x; show#[st _ _ p λo q=>k _ _ (.inl rfl) q,#[o,k _ _ (.inl rfl) e],st]
def bU.lt (x:bU P w H h) (e:H a=⇑o):a<h.objs.size:=(x a o e).lt
def bU.fresh (x:bU P w H h) (e:h.objs.size<=a):H a=none:=by
 cases q:H a with
 | none=>rfl
 | some u=>exact absurd (Jb (x.lt q) e) (Ju _)
def bU.kept (x:bU P w H h) (k:∀b u,h.get? b=⇑u->h'.get? b=⇑u):bU P w H h':=λa o e =>
 (x a o e).stay (λb u _ q=>k b u q) (λ_ q=>q) λ_ _ q=>q
def bU.laid (x:bU P w H h) (k:∀b u,h.get? b=⇑u->h'.get? b=⇑u) (hp:h.objs.size<=a) (new:cM P w (upd H a o) h' a o):bU P w (upd H a o) h':=λb u e=>by
 have hn:=x.fresh hp;by_cases hb:b=a
 . subst hb; rw[aF] at e; cases e; exact new
 . rw[aR hb] at e;exact(x b u e).stay (λc v _ q=>k c v q) (λc q=>by rw[aR (aY q hn)]; exact q) λc xs q=>by rw[aR (aY q hn)]; exact q
end
abbrev Rd (H:Hp) (a:MV) (u:HO):Prop:=H a=⇑u\/∃o,H a=⇑(.frz o u)
variable {P:Program} {w:World} {h:Heap}
def Rd.ok {u:HO} (r:Rd H a u) (x:bU P w H h):cM P w H h a u:=by
 rcases r with r|⟨o,r⟩
 . exact x a u r
 . let#[_,q]:=x a _ r;exact q
abbrev lR:JM HO->Prop
 | some (.lst _)=>True
 | some (.dK _)=>True
 | some (.dT _)=>True
 | some (.set _ _)=>True
 | some (.ins _ _ _)=>True
 | some (.ext _)=>True
 | _=>False
section
variable {P:Program} {w:World} {H:Hp} {h h':Heap} {x e:MV} {o':HO}
def bU.write (ok:bU P w H h) (mu:lR (H x)) (he:e=x\/H e=⇑(.own x)) (k:∀b u,b≠e->h.get? b=⇑u->h'.get? b=⇑u) (heo:∃u,h'.get? e=⇑u)
   (new:cM P w (upd H x o') h' x o'):bU P w (upd H x o') h':=λb u q=>by
 have nown:∀c y,H c=⇑(.own y)->c≠x:=λc y r z=>by subst z; rw[r] at mu; exact mu
 have ntup:∀c xs,H c=⇑(.tup xs)->c≠x:=λc xs r z=>by subst z; rw[r] at mu; exact mu
 by_cases hb:b=x
 . subst hb; rw[aF] at q; cases q; exact new
 . rw[aR hb] at q;by_cases hbe:b=e
   . have q':H b=⇑(.own x):=by
       rcases he with z|z
       . exact absurd (hbe\z) hb
       . rw[hbe]; exact z
     rw[q] at q'; cases q';let#[v,hv]:=heo;show#[v,by rw[hbe]; exact hv]
   . refine(ok b u q).stay (λc v hc r=>k c v ?_ r) (λc r=>by rw[aR (nown c b r)]; exact r) λc xs r=>by rw[aR (ntup c xs r)]; exact r
     rcases hc with rfl|hc
     . exact hbe
     . rintro rfl;rcases he with z|z
       . exact nown c b hc z
       . rw[hc] at z; cases z; exact hb rfl
end
structure Un (fs ex:List Addr) (H H':Hp) (h h':Heap):Prop where
 keep:∀b o,h.get? b=⇑o->H b=none->b ∉ fs->b ∉ ex->h'.get? b=⇑o
 slot:∀b o,h.get? b=⇑o->H b=none->b∈fs->b ∉ ex->∃sl,h'.get? b=some { o with slots:=sl }
 free:∀b o,h.get? b=⇑o->H b=none->b ∉ ex->H' b=none
 there:∀b o,h.get? b=⇑o->b ∉ ex->∃o',h'.get? b=⇑o'
 tups:∀b xs,H b=⇑(.tup xs)->H' b=⇑(.tup xs)
 frzs:∀b o u,H b=⇑(.frz o u)->H' b=⇑(.frz o u)
 tbls:∀b ps,H b=⇑(.tbl ps)->∃more,H' b=⇑(.tbl (ps++more))
section
variable {fs fs' ex ex':List MV} {H H1 H2:Hp} {h h1 h2 h':Heap} {a x e:MV} {o:HO}
def Un.any (u:Un fs ex H H1 h h1) {ob:Obj} (q:h.get? b=⇑ob) (n:H b=none) (hx:b ∉ ex):∃sl,h1.get? b=some { ob with slots:=sl }:=by
 by_cases hb:b∈fs
 . exact u.slot b ob q n hb hx
 . show#[ob.slots,u.keep b ob q n hb hx]
def Un.kept (k:∀b u,h.get? b=⇑u->h'.get? b=⇑u):Un fs ex H H h h' :=
 #[λb ob q _ _ _=>k b ob q,λb ob q _ _ _=>#[ob.slots,k b ob q],λ_ _ _ n _=>n,λb ob q _=>#[ob,k b ob q],λ_ _ q=>q,λ_ _ _ q=>q,λ_ ps q=>#[(List.toArray []),by rw[q]; simp]]
def Un.refl:Un fs ex H H h h:=Un.kept λ_ _ q=>q
def Un.laid (k:∀b u,h.get? b=⇑u->h'.get? b=⇑u) (hp:h.objs.size<=a) (hn:H a=none):Un fs ex H (upd H a o) h h' where
 keep:=λb u q _ _ _=>k b u q
 slot:=λb u q _ _ _=>#[u.slots,k b u q]
 free:=λb u q n _=>by rw[aR (Jn (Jb (JU q) hp))]; exact n
 there:=λb u q _=>#[u,k b u q]
 tups:=λb xs q=>by rw[aR (aY q hn)]; exact q
 frzs:=λb u xs q=>by rw[aR (aY q hn)]; exact q
 tbls:=λb ps q=>#[(List.toArray []),by rw[aR (aY q hn),q]; simp]
def Un.write (mu:lR (H x)) (he:e=x\/H e=⇑(.own x)) (k:∀b u,b≠e->h.get? b=⇑u->h'.get? b=⇑u) (heo:∃u,h'.get? e=⇑u):Un fs ex H (upd H x o) h h':=by
 have hx:∀b,H b=none->b≠x:=λb n z=>by subst z; rw[n] at mu; exact mu
 have hb:∀b,H b=none->b≠e:=λb n z=>by
   subst z;rcases he with r|r
   . exact hx b n r
   . rw[n] at r; cases r
 have hm:∀b u,H b=⇑u->¬ lR ⇑u->b≠x:=λb u q nm z=>by subst z; rw[q] at mu; exact nm mu
 show#[λb u q n _ _=>k b u (hb b n) q,λb u q n _ _=>#[u.slots,k b u (hb b n) q],λb u q n _=>by rw[aR (hx b n)]; exact n,λb u q _=>?_,
   λb xs q=>by rw[aR (hm b _ q λz=>z)]; exact q,λb u xs q=>by rw[aR (hm b _ q λz=>z)]; exact q,λb ps q=>#[(List.toArray []),by rw[aR (hm b _ q λz=>z),q]; simp]]
 by_cases hbe:b=e
 . subst hbe; exact heo
 . show#[u,k b u hbe q]
end
abbrev nD (h:Heap) (H:Hp):List MV:=(List.range h.objs.size).filter λa=>(H a).isSome
abbrev iF (h:Heap) (H:Hp):Heap:=PySem.W.hideAll h (nD h H)
def CW (h:Heap) (H:Hp):(iF h H).objs.size=h.objs.size:=PySem.W.hideAll_size _ _
def BD {o:Obj} (e:h.get? b=⇑o) (n:H b=none):(iF h H).get? b=⇑o :=
 PySem.W.hideAll_get _ e λhm=>by have q:(H b).isSome=true:=(List.mem_filter.mp hm).2;rw[n] at q; simp at q
def Bw {o:Obj} (e:(iF h H).get? b=⇑o):h.get? b=⇑o/\H b=none:=by
 have e':h.get? b=⇑o:=PySem.W.of_hideAll (nD h H) e;show#[e',?_];cases q:H b with
 | none=>rfl
 | some x =>
   have hm:b∈nD h H:=List.mem_filter.mpr #[KA.mpr (JU e'),by simp [q]];have z:(iF h H).get? b=none:=PySem.W.hideAll_none (nD h H) hm;rw[z] at e; cases e
structure Mod (K:W.Frag) (mg:Str->Option Value) (base:Heap):Prop where
 kin:K.In base
 glob:base.Ns mainGlobals mg
 blt:∃mb,base.Ns builtinsNs mb/\∀x:Str,x≠"__name__"->mb x=bootBuiltins x
 nolimit:base.NoLimit
structure Cx where
 prog:Program
 w:World
 K:W.Frag
 mg:Str->Option Value
 base:Heap
 A:Around
 N:List Str
 s₀:Shared
 H₀:Hp
 env:Env
 outer:List Env
 stack:List Env
 ex:List Addr
 fn:Str->Bool
 calm:Bool
 pn:List (Addr×Obj)
 xe:Value->Shared->Prop
abbrev cJ (l:List Env):List MV:=l.filterMap (·.frame)
noncomputable abbrev Cx.fs (X:Cx):List MV:=cJ X.outer
abbrev kt (sc:Scope) (x:Str):Prop:=sc.names.lookup x=some .local\/sc.names.lookup x=some .cell\/sc.names.lookup x=some .free
abbrev kQ (sc:Scope) (x:Str):Prop:=sc.names.lookup x=some .local\/sc.names.lookup x=some .cell
abbrev FI (env:Env) (h:Heap) (m:Str->JM MT) (x:Str) (u:MT):Prop :=
 (env.kindOf x=some .local/\m x=⇑u)\/((env.kindOf x=some .cell\/env.kindOf x=some .free)/\∃c,env.cells.lookup x=⇑c/\h.IsCell c ⇑u)
structure Cx.Ok (X:Cx):Prop where
 mod:Mod X.K X.mg X.base
 kind:X.env.scope.kind=.function
 glob:X.env.globals=mainGlobals
 blt:X.env.builtins=builtinsNs
 above:X.s₀.heap.objs.size<=X.env.locals
 inj:∀x y c,X.env.cells.lookup x=⇑c->X.env.cells.lookup y=⇑c->x=y
 has:∀x,(X.env.kindOf x=some .cell\/X.env.kindOf x=some .free)->∃c,X.env.cells.lookup x=⇑c
 cab:∀x c,X.fn x=true->X.env.cells.lookup x=⇑c->X.s₀.heap.objs.size<=c
 hd:X.calm=true->X.A.handled=none
 frames:X.A.frames=⇑X.stack
 stk:X.stack=X.outer\/(X.stack=X.env::X.outer/\X.env.frame=⇑X.env.locals)
 exf:∀b∈X.ex,b≠X.env.locals/\∀x c,X.env.cells.lookup x=⇑c->c≠b
 bs:∀b o,X.base.get? b=⇑o->X.s₀.heap.get? b=⇑o/\X.H₀ b=none
 bsz:X.base.objs.size<=X.s₀.heap.objs.size
 noex:∀b o,X.base.get? b=⇑o->b ∉ X.ex
 exfs:∀b∈X.ex,b ∉ X.fs
 funs:X.s₀.heap.FunFrames X.base X.outer
 frf:∀b∈X.fs,X.H₀ b=none
structure Inv (X:Cx) (pins:List (Addr×Obj)) (σ:List (Option V)) (H:Hp) (s:Shared):Prop where
 ok:X.Ok
 os:s.os=X.s₀.os
 bare:AllBare s.gens
 base:Un X.fs X.ex X.H₀ H X.s₀.heap s.heap
 loc:∃m,s.heap.Ns X.env.locals m/\∀(i:Nat) (x:Str) (v:V),X.N[i]?=⇑x->σ[i]?=⇑⇑v->kt X.env.scope x->∃u,af v u/\FI X.env s.heap m x u
 cell:∀x c,X.env.cells.lookup x=⇑c->∃v,s.heap.IsCell c v
 free:H X.env.locals=none
 freeC:∀x c,X.env.cells.lookup x=⇑c->H c=none
 pin:∀p∈X.pn++pins,s.heap.get? p.1=⇑p.2/\H p.1=none/\p.1≠X.env.locals/\p.1 ∉ X.fs/\∀v,p.2.data≠.cell v
 hok:bU X.prog X.w H s.heap
 len:σ.length=X.N.length
variable {x:Str} {t' i:Nat} {M:Model} {A:Around} {E:MT->MU->Prop} {v:V}
section
variable {X:Cx} {pins:List (MV×Obj)} {σ:List (JM V)} {H H':Hp} {s:MU} {h':Heap}
def Cx.Ok.nofr (ok:X.Ok) {o:Obj} (e:X.base.get? b=⇑o):b ∉ X.fs:=λhb=>by have:=(ok.funs.mem hb).1;rw[e] at this; cases this
def Inv.bs (I:Inv X pins σ H s):∀b o,X.base.get? b=⇑o->s.heap.get? b=⇑o/\H b=none:=λb o e =>
 #[I.base.keep b o (I.ok.bs b o e).1 (I.ok.bs b o e).2 (I.ok.nofr e) (I.ok.noex b o e),I.base.free b o (I.ok.bs b o e).1 (I.ok.bs b o e).2 (I.ok.noex b o e)]
def Inv.bk (I:Inv X pins σ H s):∀b o,X.base.get? b=⇑o->s.heap.get? b=⇑o:=λb o e=>(I.bs b o e).1
def Inv.mod (I:Inv X pins σ H s):Mod X.K X.mg X.base:=I.ok.mod
def Inv.kIn (I:Inv X pins σ H s):X.K.In s.heap:=I.ok.mod.kin.keeps I.bk
def Inv.lt (I:Inv X pins σ H s):X.env.locals<s.heap.objs.size:=by let#[_,hn,_]:=I.loc; exact hn.lt
def Inv.sz (I:Inv X pins σ H s):X.s₀.heap.objs.size<=s.heap.objs.size:=Jo I.ok.above (M1 I.lt)
def Inv.nofs (I:Inv X pins σ H s) (h:s.heap.objs.size<=a):a ∉ X.fs:=λhb=>by let#[_,o,ho,_]:=I.ok.funs.mem hb;exact absurd (Jb (JU ho) (Jo I.sz h)) (Ju _)
def Inv.cne (I:Inv X pins σ H s):∀x c,X.env.cells.lookup x=⇑c->c≠X.env.locals:=λx c e z=>by let#[v,o,ho,hd]:=I.cell x c e;obtain⟨m,⟨o',es,ep,ho',hd',_⟩,_⟩:=I.loc;rw[z,ho'] at ho; cases ho; rw[hd'] at hd; cases hd
def Inv.funs (I:Inv X pins σ H s):s.heap.FunFrames X.base X.outer:=by
 have all:∀(l:List Env),(∀b∈cJ l,b∈X.fs)->X.s₀.heap.FunFrames X.base l->s.heap.FunFrames X.base l:=by
   intro l
   induction l with
   | nil=>intro _ _; trivial
   | cons env r ih =>
     intro hs hl;obtain⟨hk,⟨L,o,hf,hn,ho,hd⟩,hr⟩:=hl;have hL:L∈X.fs:=hs L (by unfold cJ; rw[Kv,hf]; exact Je);let#[sl,e]:=I.base.slot L o ho (I.ok.frf L hL) hL λz=>I.ok.exfs L z hL;show#[hk,#[L,_,hf,hn,e,hd],ih (λb hb=>hs b (by unfold cJ; rw[Kv,hf]; exact Jc _ hb)) hr]
 exact all X.outer (λ_ hb=>hb) I.ok.funs
def Inv.stack (I:Inv X pins σ H s):s.heap.FunFrames X.base X.stack:=by
 rcases I.ok.stk with e|⟨e,hf⟩
 . rw[e]; exact I.funs
 . rw[e];let#[m,hn,_]:=I.loc;refine .cons (by rw[I.ok.kind]; decide) hf hn ?_ I.funs;exact Kg (Jo I.ok.bsz I.ok.above)
def Inv.stkSub (I:Inv X pins σ H s):∀b∈cJ X.stack,b∈X.env.locals::X.fs:=λb hb=>by
 rcases I.ok.stk with e|⟨e,hf⟩
 . rw[e] at hb; exact Jc _ hb
 . rw[e] at hb;unfold cJ at hb;rw[Kv,hf] at hb;exact hb
def Inv.stkFree (I:Inv X pins σ H s):∀b∈cJ X.stack,H b=none:=λb hb=>by
 rcases JS.mp (I.stkSub b hb) with e|hb
 . rw[e]; exact I.free
 . let#[_,o,ho,_]:=I.ok.funs.mem hb;exact I.base.free b o ho (I.ok.frf b hb) λz=>I.ok.exfs b z hb
def Inv.step {g':Array GenState} {d':Drawn} {ch:List MV} (I:Inv X pins σ H s)
   (hch:∀b∈ch,(b∈X.ex\/X.s₀.heap.objs.size<=b)/\b≠X.env.locals/\(∀x c,X.env.cells.lookup x=⇑c->c≠b)/\∀p∈X.pn++pins,p.1≠b)
   (keep:∀b o,b≠X.env.locals->b ∉ X.fs->b ∉ ch->s.heap.get? b=⇑o->H b=none->h'.get? b=⇑o)
   (slot:∀b o,b≠X.env.locals->b∈X.fs->b ∉ ch->s.heap.get? b=⇑o->H b=none->∃sl,h'.get? b=some { o with slots:=sl }) (free:∀b o,b ∉ ch->s.heap.get? b=⇑o->H b=none->H' b=none)
   (there:∀b o,b ∉ ch->s.heap.get? b=⇑o->∃o',h'.get? b=⇑o')
   (tups:∀b xs,H b=⇑(.tup xs)->H' b=⇑(.tup xs)) (frzs:∀b o u,H b=⇑(.frz o u)->H' b=⇑(.frz o u)) (tbls:∀b ps,H b=⇑(.tbl ps)->∃more,H' b=⇑(.tbl (ps++more)))
   (ns:∀m,s.heap.Ns X.env.locals m->h'.Ns X.env.locals m) (hok:bU X.prog X.w H' h') (hg:AllBare g') :
   Inv X pins σ H' { s with heap:=h',gens:=g',drawn:=d',toks:=t' }:=by
 have neL:∀b o,X.s₀.heap.get? b=⇑o->b≠X.env.locals:=λb o e=>Jn (Jb (JU e) I.ok.above);have neC:∀b o,X.s₀.heap.get? b=⇑o->b ∉ X.ex->b ∉ ch:=λb o e hx hb=>by
   rcases (hch b hb).1 with z|z
   . exact hx z
   . exact absurd (Jb (JU e) z) (Ju _)
 have cellK:∀x c,X.env.cells.lookup x=⇑c->∀v,s.heap.IsCell c v->h'.IsCell c v:=λx c e v ⟨o,ho,hd⟩=>by
   have nch:c ∉ ch:=λz=>(hch c z).2.2.1 x c e rfl;by_cases hc:c∈X.fs
   . let#[sl,q]:=slot c o (I.cne x c e) hc nch ho (I.freeC x c e);show#[_,q,hd]
   . show#[o,keep c o (I.cne x c e) hc nch ho (I.freeC x c e),hd]
 show#[I.ok,I.os,hg,#[λb o e n hb hx=>?_,λb o e n hb hx=>?_,λb o e n hx=>?_,λb o e hx=>?_,λb xs e=>tups b xs (I.base.tups b xs e),λb o xs e=>frzs b o xs (I.base.frzs b o xs e),λb ps e=>?_],?_,λx c e=>?_,?_,λx c e=>?_,λp hp=>?_,hok,I.len]
 . exact keep b o (neL b o e) hb (neC b o e hx) (I.base.keep b o e n hb hx) (I.base.free b o e n hx)
 . let#[sl,e1]:=I.base.slot b o e n hb hx;let#[sl',e2]:=slot b _ (neL b o e) hb (neC b o e hx) e1 (I.base.free b o e n hx);show#[sl',e2]
 . let#[o',e1]:=I.base.there b o e hx;exact free b o' (neC b o e hx) e1 (I.base.free b o e n hx)
 . let#[o',e1]:=I.base.there b o e hx;exact there b o' (neC b o e hx) e1
 . let#[m1,e1]:=I.base.tbls b ps e;let#[m2,e2]:=tbls b _ e1;show#[m1++m2,by rw[e2,Array.append_assoc]]
 . let#[m,hn,hl]:=I.loc;show#[m,ns m hn,λi x v e1 e2 e3=>?_];let#[u,r,l]:=hl i x v e1 e2 e3;show#[u,r,?_];rcases l with l|⟨k,c,e,z⟩
   . exact .inl l
   . exact .inr #[k,c,e,cellK x c e _ z]
 . let#[v,z]:=I.cell x c e;show#[v,cellK x c e v z]
 . obtain⟨m,⟨o,_,_,ho,_⟩,_⟩:=I.loc;exact free _ o (λz=>(hch _ z).2.1 rfl) ho I.free
 . let#[v,o,ho,hd]:=I.cell x c e;exact free c o (λz=>(hch c z).2.2.1 x c e rfl) ho (I.freeC x c e)
 . let#[e,n,ne,nf,d]:=I.pin p hp;have nch:p.1 ∉ ch:=λz=>(hch p.1 z).2.2.2 p hp rfl;show#[keep p.1 p.2 ne nf nch e n,free p.1 p.2 nch e n,ne,nf,d]
def Inv.un (I:Inv X pins σ H s) (u:Un X.fs [] H H' s.heap h') (hok:bU X.prog X.w H' h'):Inv X pins σ H' { s with heap:=h',toks:=t' }:=by
 obtain⟨m,⟨o,es,ep,ho,r⟩,_⟩:=id I.loc;let#[sl,hL]:=u.any ho I.free 0xB;exact I.step (g':=s.gens) (d':=s.drawn) (ch:=[]) (λ_ z=>nomatch z) (λb o _ hb _ e n=>u.keep b o e n hb 0xB) (λb o _ hb _ e n=>u.slot b o e n hb 0xB) (λb o _ e n=>u.free b o e n 0xB) (λb o _ e=>u.there b o e 0xB) u.tups u.frzs u.tbls (λm' hm=>by let#[o',es',ep',ho',r']:=hm;rw[ho] at ho'; cases ho';show#[_,es',ep',hL,r']) hok I.bare
def Inv.call {g':Array GenState} {d':Drawn} {ch:List MV} (I:Inv X pins σ H s) (u:Un (cJ X.stack) ch H H' s.heap h') (hok:bU X.prog X.w H' h') (hg:AllBare g')
   (hch:∀b∈ch,(b∈X.ex\/X.s₀.heap.objs.size<=b)/\b≠X.env.locals/\(∀x c,X.env.cells.lookup x=⇑c->c≠b)/\∀p∈X.pn++pins,p.1≠b) :
   Inv X pins σ H' { s with heap:=h',gens:=g',drawn:=d',toks:=t' }:=by
 obtain⟨m,⟨o,es,ep,ho,r⟩,_⟩:=id I.loc;let#[sl,hL]:=u.any ho I.free λz=>(hch _ z).2.1 rfl;exact I.step (ch:=ch) hch (λb o hL hb hc e n=>u.keep b o e n (λz=>(JS.mp (I.stkSub b z)).elim hL hb) hc) (λb o _ _ hc e n=>u.any e n hc) (λb o hc e n=>u.free b o e n hc) (λb o hc e=>u.there b o e hc) u.tups u.frzs u.tbls (λm' hm=>by let#[o',es',ep',ho',r']:=hm;rw[ho] at ho'; cases ho';show#[_,es',ep',hL,r']) hok hg
def Inv.turned {it:MV} (I:Inv X pins σ H s) (k:∀b o,b≠it->s.heap.get? b=⇑o->h'.get? b=⇑o) (hn:H it=none) (hL:it≠X.env.locals)
   (h1:it∈X.ex\/X.s₀.heap.objs.size<=it) (h2:∀x c,X.env.cells.lookup x=⇑c->c≠it) (h3:∀p∈X.pn++pins,p.1≠it):Inv X pins σ H { s with heap:=h',toks:=t' }:=by
 have nit:∀b u,H b=⇑u->b≠it:=λb u e z=>by rw[z,hn] at e; cases e
 refine I.step (g':=s.gens) (d':=s.drawn) (ch:=[it]) (λb hb=>?_) (λb o _ _ hc e _=>k b o (λz=>hc (by simp [z])) e) (λb o _ _ hc e _=>#[o.slots,k b o (λz=>hc (by simp [z])) e]) (λ_ _ _ _ n=>n)
   (λb o hc e=>#[o,k b o (λz=>hc (by simp [z])) e]) (λ_ _ e=>e) (λ_ _ _ e=>e) (λb ps e=>#[(List.toArray []),by rw[e]; simp]) (λm hm=>?_) (λb u e=>?_) I.bare
 . have e:b=it:=↑hb
   subst e;show#[h1,hL,h2,h3]
 . let#[o,es,ep,ho,r]:=hm;show#[o,es,ep,k _ o (Ne.symm hL) ho,r]
 . refine(I.hok b u e).stay (λc v hc q=>k c v ?_ q) (λ_ q=>q) λ_ _ q=>q;rcases hc with z|z
   . rw[z]; exact nit b u e
   . exact nit c _ z
def Inv.tok (I:Inv X pins σ H s) (t:Nat):Inv X pins σ H { s with toks:=t }:=I.un (h':=s.heap) (t':=t) Un.refl I.hok
def Inv.kept {t':Nat} (I:Inv X pins σ H s) (k:∀b u,s.heap.get? b=⇑u->h'.get? b=⇑u):Inv X pins σ H { s with heap:=h',toks:=t' }:=I.un (Un.kept k) (I.hok.kept k)
def Inv.laid {a:MV} {o:HO} {t':Nat} (I:Inv X pins σ H s) (k:∀b u,s.heap.get? b=⇑u->h'.get? b=⇑u) (hp:s.heap.objs.size<=a) (new:cM X.prog X.w (upd H a o) h' a o) :
   Inv X pins σ (upd H a o) { s with heap:=h',toks:=t' }:=I.un (Un.laid k hp (I.hok.fresh hp)) (I.hok.laid k hp new)
def Inv.write {x e:MV} {o:HO} {t':Nat} (I:Inv X pins σ H s) (mu:lR (H x)) (he:e=x\/H e=⇑(.own x)) (k:∀b u,b≠e->s.heap.get? b=⇑u->h'.get? b=⇑u) (heo:∃u,h'.get? e=⇑u)
   (new:cM X.prog X.w (upd H x o) h' x o):Inv X pins σ (upd H x o) { s with heap:=h',toks:=t' }:=I.un (Un.write mu he k heo) (I.hok.write mu he k heo new)
def Inv.weak {σ':List (JM V)} (I:Inv X pins σ H s) (hl:σ'.length=σ.length) (w:∀(i:Nat) v,σ'[i]?=⇑⇑v->σ[i]?=⇑⇑v):Inv X pins σ' H s :=
 #[I.ok,I.os,I.bare,I.base,by let#[m,hn,hl']:=I.loc; show#[m,hn,λi x v e1 e2 e3=>hl' i x v e1 (w i v e2) e3],I.cell,I.free,I.freeC,I.pin,I.hok,hl\I.len]
def Inv.pins_of {pins':List (MV×Obj)} (I:Inv X pins σ H s) (h:∀p∈pins',s.heap.get? p.1=⇑p.2/\H p.1=none/\p.1≠X.env.locals/\p.1 ∉ X.fs/\∀v,p.2.data≠.cell v):Inv X pins' σ H s :=
 #[I.ok,I.os,I.bare,I.base,I.loc,I.cell,I.free,I.freeC,λp hp=>(JZ.mp hp).elim (λz=>I.pin p (Kh _ z)) (h p),I.hok,I.len]
def vp {N:List Str} (hN:N.Nodup) {j:Nat}(a:N[i]?=⇑x) (b:N[j]?=⇑x):i=j:=by let#[h1,e1]:=JF.mp a;let#[h2,e2]:=JF.mp b;exact(List.getElem_inj hN).mp (e1\e2.symm)
def vW {Q:Unit->MU->Prop} (I:Inv X pins σ H s) (hN:X.N.Nodup) (hi:X.N[i]?=⇑x) (hx:kQ X.env.scope x) (r:af v u)
   (h:∀s',Inv X pins (σ.set i ⇑v) H s'->(∃a,Heap.SameBut a s.heap s'.heap/\(a=X.env.locals\/X.env.cells.lookup x=⇑a))->Q () s') (hf:X.fn x=true\/X.env.scope.names.lookup x=some .local:=by first|exact .inl rfl|exact .inr rfl|assumption):wpAny M A (storeName X.env x u) Q E s:=by
 let#[m,hn,hl]:=id I.loc;have hcls:(X.env.scope.kind==.class || (X.env.scope.kind==.module&&X.env.locals != X.env.globals))=false:=by rw[I.ok.kind]; rfl
 have hiσ:i<σ.length:=by rw[I.len]; exact(JF.mp hi).1
 have cne:=I.cne;have tracked:∀{a:MV} {h':Heap},(∃o,s.heap.get? a=⇑o/\H a=none)->Heap.SameBut a s.heap h'->bU X.prog X.w H h':=λ{a h'} ha hs b ob e=>by
   let#[_,_,hfree]:=ha;refine(I.hok b ob e).stay (λc w' hc q=>(hs.2 c ?_)\q) (λ_ q=>q) λ_ _ q=>q;rintro rfl;rcases hc with rfl|hc
   . rw[hfree] at e; cases e
   . rw[hfree] at hc; cases hc
 rcases hx with hk|hk
 . refine wpAny_storeName_local hk hn (λh' hn' hs=>?_) hcls;let#[oL,_,_,hoL,_]:=id hn;refine h _ #[I.ok,I.os,I.bare,#[λb o e n hb hx=>?_,λb o e n hb hx=>?_,I.base.free,λb o e hx=>?_,I.base.tups,I.base.frzs,I.base.tbls],#[_,hn',λj y v' e1 e2 e3=>?_],λy c e=>?_,I.free,I.freeC,λp hp=>?_,tracked #[oL,hoL,I.free] hs,by simpa using I.len] #[_,hs,.inl rfl]
   . exact(hs.2 b (Jn (Jb (JU e) I.ok.above))).trans (I.base.keep b o e n hb hx)
   . let#[sl,e1]:=I.base.slot b o e n hb hx;show#[sl,(hs.2 b (Jn (Jb (JU e) I.ok.above)))\e1]
   . let#[o',e1]:=I.base.there b o e hx;show#[o',(hs.2 b (Jn (Jb (JU e) I.ok.above)))\e1]
   . by_cases hj:j=i
     . subst hj;rw[hi] at e1; cases e1;rw[KI hiσ] at e2;cases e2;show#[u,r,.inl #[hk,by simp]]
     . rw[KR (Ne.symm hj)] at e2;let#[u',r',q]:=hl j y v' e1 e2 e3;show#[u',r',?_];rcases q with⟨k,e⟩|⟨k,c,e,z⟩
       . refine .inl #[k,?_];have:y≠x:=λe=>hj (vp hN e1 (e ▸ hi));simp [this,e]
       . exact .inr #[k,c,e,z.sameBut hs (cne y c e)]
   . let#[w',z]:=I.cell y c e;show#[w',z.sameBut hs (cne y c e)]
   . let#[e,n,ne,nf,d]:=I.pin p hp;show#[(hs.2 p.1 ne)\e,n,ne,nf,d]
 . have hfn:X.fn x=true:=by
     rcases hf with z|z
     . exact z
     . rw[z] at hk; cases hk
   let#[c,hc]:=I.ok.has x (.inl hk);let#[w',z]:=I.cell x c hc;refine wpAny_storeName_cell I.ok.kind hk hc z (λh' hc' hs=>?_);let#[oc,hoc,hocd]:=id z;refine h { s with heap:=h' } #[I.ok,I.os,I.bare,#[λb o e n hb hx=>?_,λb o e n hb hx=>?_,I.base.free,λb o e hx=>?_,I.base.tups,I.base.frzs,I.base.tbls],#[m,hn.sameBut hs (Ne.symm (cne x c hc)),λj y v' e1 e2 e3=>?_],λy c' e=>?_,I.free,I.freeC,λp hp=>?_,tracked #[oc,hoc,I.freeC x c hc] hs,by simpa using I.len] #[c,hs,.inr hc]
   . exact(hs.2 b (Jn (Jb (JU e) (I.ok.cab x c hfn hc)))).trans (I.base.keep b o e n hb hx)
   . let#[sl,e1]:=I.base.slot b o e n hb hx;show#[sl,(hs.2 b (Jn (Jb (JU e) (I.ok.cab x c hfn hc))))\e1]
   . let#[o',e1]:=I.base.there b o e hx;show#[o',(hs.2 b (Jn (Jb (JU e) (I.ok.cab x c hfn hc))))\e1]
   . by_cases hj:j=i
     . subst hj;rw[hi] at e1; cases e1;rw[KI hiσ] at e2;cases e2;show#[u,r,.inr #[.inl hk,c,hc,hc']]
     . rw[KR (Ne.symm hj)] at e2;let#[u',r',q]:=hl j y v' e1 e2 e3;show#[u',r',?_];rcases q with q|⟨k,c',e,z'⟩
       . exact .inl q
       . refine .inr #[k,c',e,z'.sameBut hs ?_];rintro rfl;exact hj (vp hN e1 (I.ok.inj _ _ _ e hc ▸ hi))
   . by_cases hcc:c'=c
     . subst hcc; show#[_,hc']
     . let#[w2,z2]:=I.cell y c' e;show#[w2,z2.sameBut hs hcc]
   . let#[e,n,ne,nf,d]:=I.pin p hp;show#[(hs.2 p.1 ?_)\e,n,ne,nf,d];intro q;rw[q,hoc] at e;have q':oc=p.2:=Option.some.inj e;exact d w' (by rw[<- q']; exact hocd)
def so {Q:Unit->MU->Prop} (I:Inv X pins σ H s) (hN:X.N.Nodup) (hi:X.N[i]?=⇑x) (hx:kQ X.env.scope x) (r:af v u)
   (h:∀s',Inv X pins (σ.set i ⇑v) H s'->Q () s') (hf:X.fn x=true\/X.env.scope.names.lookup x=some .local:=by first|exact .inl rfl|exact .inr rfl|assumption):wpAny M A (storeName X.env x u) Q E s :=
 vW I hN hi hx r (λs' I' _=>h s' I') hf
def Inv.call' {s':MU} {ch:List MV} (I:Inv X pins σ H s) (ho:s'.os=s.os) (u:Un (cJ X.stack) ch H H' s.heap s'.heap) (hok:bU X.prog X.w H' s'.heap) (hg:AllBare s'.gens)
   (hch:∀b∈ch,(b∈X.ex\/X.s₀.heap.objs.size<=b)/\b≠X.env.locals/\(∀x c,X.env.cells.lookup x=⇑c->c≠b)/\∀p∈X.pn++pins,p.1≠b):Inv X pins σ H' s':=by
 let#[h',g',d',t',o']:=s';have e:o'=s.os:=ho;subst e;exact I.call (g':=g') (t':=t') (d':=d') u hok hg hch
end
noncomputable abbrev XK:=MT->JM MV->Hp->Prop
noncomputable abbrev St:=List (JM V)
noncomputable abbrev VK:=V->Hp->Prop
noncomputable abbrev TE:=St->Hp->VK->Prop
noncomputable abbrev TT:=St->Hp->(Bool->Hp->Prop)->Prop
noncomputable abbrev TA:=St->Hp->(List V->Hp->Prop)->Prop
structure cj where
 nx:St->Hp->Prop
 rt:VK
 bk:St->Hp->Prop:=λ_ _=>False
 ct:St->Hp->Prop:=λ_ _=>False
noncomputable abbrev TS:=cj->St->Hp->Prop
abbrev EP (X:Cx) (pins:List (MV×Obj)) (σ:St) (Q:VK) (u:MT) (s':MU):Prop:=∃v H',Inv X pins σ H' s'/\af v u/\Q v H'
abbrev TP (X:Cx) (pins:List (MV×Obj)) (σ:St) (Q:Bool->Hp->Prop) (b:Bool) (s':MU):Prop:=∃H',Inv X pins σ H' s'/\Q b H'
abbrev AP (X:Cx) (pins:List (MV×Obj)) (σ:St) (Q:List V->Hp->Prop) (us:List MT) (s':MU):Prop:=∃vs H',Inv X pins σ H' s'/\aV vs us/\Q vs H'
abbrev SP (X:Cx) (pins:List (MV×Obj)) (D:cj) (f:Flow) (s':MU):Prop :=
 match f with
 | .next=>∃σ' H',Inv X pins σ' H' s'/\D.nx σ' H'
 | .brk=>∃σ' H',Inv X pins σ' H' s'/\D.bk σ' H'
 | .cont=>∃σ' H',Inv X pins σ' H' s'/\D.ct σ' H'
 | .ret u=>∃v σ' H',Inv X pins σ' H' s'/\af v u/\D.rt v H'
abbrev PE (X:Cx) (e:Expr) (t:TE):Prop :=
 ∀(pins:List (MV×Obj)) (s:MU) (σ:St) (H:Hp) (Q:VK),Inv X pins σ H s->t σ H Q->wpAny 0x7 X.A (eval e X.env) (EP X pins σ Q) X.xe s
abbrev PT (X:Cx) (e:Expr) (t:TT):Prop :=
 ∀(pins:List (MV×Obj)) (s:MU) (σ:St) (H:Hp) (Q:Bool->Hp->Prop),Inv X pins σ H s->t σ H Q->wpAny 0x7 X.A (isTrue e X.env (eval e X.env)) (TP X pins σ Q) X.xe s
abbrev PW (X:Cx) (e:Expr) (t:TT):Prop :=
 ∀(whole:Sem MT) (pins:List (MV×Obj)) (s:MU) (σ:St) (H:Hp) (Q:Bool->Hp->Prop),Inv X pins σ H s->t σ H Q->wpAny 0x7 X.A (isTrue e X.env whole) (TP X pins σ Q) X.xe s
def PW.pt {X:Cx} {e:Expr} {t:TT} (h:PW X e t):PT X e t:=h _
abbrev PA (X:Cx) (es:List Expr) (t:TA):Prop :=
 ∀(pos:Pos) (pins:List (MV×Obj)) (s:MU) (σ:St) (H:Hp) (Q:List V->Hp->Prop),Inv X pins σ H s->t σ H Q->wpAny 0x7 X.A (spliced (backTo pos (starEach es X.env))) (AP X pins σ Q) X.xe s
abbrev PS (X:Cx) (st:Stmt) (t:TS):Prop :=
 ∀(pins:List (MV×Obj)) (s:MU) (σ:St) (H:Hp) (D:cj),Inv X pins σ H s->t D σ H->wpAny 0x7 X.A (exec st X.env) (SP X pins D) X.xe s
abbrev dn (X:Cx) (st:List Stmt) (t:TS):Prop :=
 ∀(pins:List (MV×Obj)) (s:MU) (σ:St) (H:Hp) (D:cj),Inv X pins σ H s->t D σ H->wpAny 0x7 X.A (execs st X.env) (SP X pins D) X.xe s
variable {us:List MT}
section
variable {X:Cx} {pins:List (MV×Obj)} {σ:St} {s:MU} {P:Prop}
def EP.e {Q:VK} (h:EP X pins σ Q u s) (f:∀v H,Inv X pins σ H s->af v u->Q v H->P):P:=by let#[v,H,a,b,c]:=h;exact f v H a b c
def AP.e {Q:List V->Hp->Prop} (h:AP X pins σ Q us s) (f:∀vs H,Inv X pins σ H s->aV vs us->Q vs H->P):P:=by let#[v,H,a,b,c]:=h;exact f v H a b c
end
variable {s:MU}
def aQ {α:Type} {t:Sem α} {Q Q':α->MU->Prop} (h:wpAny M A t Q E s) (hQ:∀a s,Q a s->Q' a s):wpAny M A t Q' E s:=Ki h hQ λ_ _ x=>x
variable {pos:Pos} {pins:List (MV×Obj)} {σ:St} {op:CmpOp}
section
variable {X:Cx}
abbrev um (i:Nat):TE:=λσ H Q=>∃v,σ[i]?=⇑⇑v/\Q v H
abbrev tC (v:V):TE:=λ_ H Q=>Q v H
def Ed (hN:X.N[i]?=⇑x) (hv:kt X.env.scope x) (hd:(x==("__debug__":Str))=false:=by decide) (hcd:(x==("__classdict__":Str))=false:=by decide):PE X (.Name x pos) (um i):=by
 intro pins s σ H Q I h;let#[v,e,h]:=h;let#[m,hn,hl]:=I.loc;let#[u,r,l]:=hl i x v hN e hv;have fin:EP X pins σ Q u s:=#[v,H,I,r,h]
 rcases l with⟨hk,hm⟩|⟨hk,c,hc,hcell⟩
 . exact wpAny_Name (wpAny_loadName_local I.ok.kind hk hn hm fin) hd
 . rcases hk with hk|hk
   . exact wpAny_Name (wpAny_loadName_cell I.ok.kind hk hc hcell fin) hd
   . exact wpAny_Name (wpAny_loadName_free I.ok.kind hk hc hcell fin hcd) hd
def aE {i j pos}:PE X (.Constant (.int i) j pos) (tC (.int i)):=λ_ _ _ H _ I h=>wpAny_Constant_int #[.int i,H,I.tok _,#[5],h]
def gC {b j pos}:PE X (.Constant (.bool b) j pos) (tC (.bl b)):=λ_ _ _ H _ I h=>Constant_bool #[.bl b,H,I,rfl,h]
def jG {j pos}:PE X (.Constant .none j pos) (tC .non):=λ_ _ _ H _ I h=>Constant_none #[.non,H,I,rfl,h]
def ak {x j pos}:PE X (.Constant (.str x) j pos) (tC (.str x)):=λ_ _ _ H _ I h=>Calls.Constant_str #[.str x,H,I.tok _,#[5],h]
abbrev Gl (X:Cx) (x:Str):Prop:=X.env.kindOf x=some .globalImplicit
def oZ {Q:MT->MU->Prop} (I:Inv X pins σ H s) (hg:Gl X x) (hm:X.mg x=⇑u) (h:Q u s)
   (hd:(x==("__debug__":Str))=false:=by decide):wpAny 0x7 X.A (eval (.Name x pos) X.env) Q E s :=
 Calls.Name_function_global I.ok.kind hg (Calls.loadGlobal_global (by rw[I.ok.glob]; exact I.mod.glob.keeps I.bk) hm h) hd
def ij {Q:MT->MU->Prop} (I:Inv X pins σ H s) (hg:Gl X x) (hm:X.mg x=none) (hv:bootBuiltins x=⇑u) (h:Q u s)
   (hn:x≠"__name__":=by decide) (hd:(x==("__debug__":Str))=false:=by decide):wpAny 0x7 X.A (eval (.Name x pos) X.env) Q E s:=by
 let#[mb,h1,h2]:=I.mod.blt;exact Calls.Name_function_global I.ok.kind hg (Calls.loadGlobal_builtin (by rw[I.ok.glob]; exact I.mod.glob.keeps I.bk) hm (by rw[I.ok.blt]; exact h1.keeps I.bk) ((h2 x hn)\hv) h) hd
def rQ (hg:Gl X x) (hm:X.mg x=⇑u) (r:af v u) (hd:(x==("__debug__":Str))=false:=by decide):PE X (.Name x pos) (tC v) :=
 λ_ _ _ H _ I h=>oZ I hg hm #[v,H,I,r,h] hd
def iT (hg:Gl X x) (hm:X.mg x=none) (hv:bootBuiltins x=⇑u) (r:af v u) (hn:x≠"__name__":=by decide) (hd:(x==("__debug__":Str))=false:=by decide):PE X (.Name x pos) (tC v) :=
 λ_ _ _ H _ I h=>ij I hg hm hv #[v,H,I,r,h] hn hd
variable {a b:Expr} {ta tb:TE} {pos:Pos}
abbrev PC (X:Cx) (op:CmpOp) (a b:Expr) (t:TE):Prop :=
 ∀(pins:List (MV×Obj)) (s:MU) (σ:St) (H:Hp) (Q:VK),Inv X pins σ H s->t σ H Q ->
   wpAny 0x7 X.A (eval a X.env) (λv s₁=>wpAny 0x7 X.A (eval b X.env) (λu s₂=>wpAny 0x7 X.A (compareOp op v u) (EP X pins σ Q) X.xe s₂) X.xe s₁) X.xe s
def uS (b:Expr) (h:op≠.In) (h2:op≠.NotIn):behindInMarks op b=false:=by
 have e1:(op==CmpOp.In)=false:=by cases op <;> first|rfl|exact absurd rfl h
 have e2:(op==CmpOp.NotIn)=false:=by cases op <;> first|rfl|exact absurd rfl h2
 cases b <;> simp [behindInMarks,e1,e2]
abbrev BQ (ta:TE):TE:=λσ H Q=>ta σ H λx H1=>Q (.bl (decide (x=.non))) H1
abbrev Bn (ta:TE):TE:=λσ H Q=>ta σ H λx H1=>Q (.bl (!decide (x=.non))) H1
def af.none_iff {x:V} {v:MT} (r:af x v):(v==Value.none)=decide (x=.non):=by
 cases x with
 | non=>cases r; rfl
 | bl _=>cases r; rfl
 | int _=>let#[t,rfl]:=r; rfl
 | str _=>let#[t,rfl]:=r; rfl
 | byt _=>let#[t,rfl]:=r; rfl
 | flt _=>let#[t,rfl]:=r; rfl
 | ref _=>cases r; rfl
 | ty _=>cases r; rfl
def t9 {j pos'} (ha:PE X a ta):PC X .Is a (.Constant .none j pos') (BQ ta):=by intro pins s σ H Q I h;refine aQ (ha pins s σ H _ I h) λv s1 z4_=>?_;let#[x,H1,I1,r1,q1]:=z4_;exact Constant_none (is_none_gen #[.bl _,H1,I1,by rw[r1.none_iff]; rfl,q1])
def DS {j pos'} (ha:PE X a ta):PC X .IsNot a (.Constant .none j pos') (Bn ta):=by intro pins s σ H Q I h;refine aQ (ha pins s σ H _ I h) λv s1 z5_=>?_;let#[x,H1,I1,r1,q1]:=z5_;exact Constant_none (isnot_none_gen #[.bl _,H1,I1,by rw[r1.none_iff]; rfl,q1])
abbrev tB (t:TE):TT:=λσ H Q=>t σ H λx H1=>∃c,x=.bl c/\Q c H1
def F' {t:TE} (h:PC X op a b t) (h1:behindInMarks op b=false:=by first|exact uS _ #[] #[]|rfl):PE X (.Compare a [op] [b] pos) t:=λpins s σ H Q I hw=>wpAny_Compare1 (h pins s σ H Q I hw) h1
def n9 {t:TE} (h:PC X op a b t) (h1:behindInMarks op b=false:=by first|exact uS _ #[] #[]|rfl):PT X (.Compare a [op] [b] pos) (tB t):=by intro pins s σ H Q I hw;refine Ld (aQ (h pins s σ H _ I hw) λv s1 h1=>aQ h1 λu s2 h2=>aQ h2 λc s3 z6_=>?_) h1;let#[x,H1,I1,r1,q1]:=z6_;let#[d,rfl,q]:=q1;cases r1;exact KS #[H1,I1,q]
variable {tA tB':TT} {rest:List Expr}
abbrev Fq (t u:TT):TT:=λσ H Q=>t σ H λc H1=>if c=true then u σ H1 Q else Q false H1
abbrev tOr (t u:TT):TT:=λσ H Q=>t σ H λc H1=>if c=true then Q true H1 else u σ H1 Q
abbrev Gb (t:TT):TT:=λσ H Q=>t σ H λc H1=>Q (!c) H1
def gn (ha:PT X a tA):PW X (.BoolOp .And [a] pos) tA:=by
 intro wh pins s σ H Q I h;refine isTrue_and (aQ (ha pins s σ H Q I h) λc s1 e=>?_);cases c with
 | true=>exact isTrue_and_nil e
 | false=>exact e
def kq (ha:PT X a tA):PW X (.BoolOp .Or [a] pos) tA:=by
 intro wh pins s σ H Q I h;refine isTrue_or (aQ (ha pins s σ H Q I h) λc s1 e=>?_);cases c with
 | false=>exact isTrue_or_nil e
 | true=>exact e
def gd (ha:PT X a tA) (hb:PW X (.BoolOp .And (b::rest) pos) tB'):PW X (.BoolOp .And (a::b::rest) pos) (Fq tA tB'):=by
 intro wh pins s σ H Q I h;refine isTrue_and (aQ (ha pins s σ H _ I h) λc s1 z8_=>?_);let#[H1,I1,q1]:=z8_;cases c with
 | true=>exact hb wh pins s1 σ H1 Q I1 q1
 | false=>show#[H1,I1,q1]
def jm (ha:PT X a tA) (hb:PW X (.BoolOp .Or (b::rest) pos) tB'):PW X (.BoolOp .Or (a::b::rest) pos) (tOr tA tB'):=by
 intro wh pins s σ H Q I h;refine isTrue_or (aQ (ha pins s σ H _ I h) λc s1 z9_=>?_);let#[H1,I1,q1]:=z9_;cases c with
 | true=>show#[H1,I1,q1]
 | false=>exact hb wh pins s1 σ H1 Q I1 q1
def kU (ha:PT X a tA):PT X (.UnaryOp .Not a pos) (Gb tA):=by intro pins s σ H Q I h;exact isTrue_not (ha pins s σ H (λc H1=>Q (!c) H1) I h)
abbrev Cd (ta tb:TE):TE:=λσ H Q=>ta σ H λx H1=>∃c,x=.bl c/\if c=true then tb σ H1 Q else Q (.bl false) H1
abbrev FO (ta:TE):TE:=λσ H Q=>ta σ H λx H1=>∃c,x=.bl c/\Q (.bl (!c)) H1
def sQ {op} {t:TE} (h:PE X a t):PE X (.BoolOp op [a] pos) t:=λpins s σ H Q I hw=>BoolOp_one (h pins s σ H Q I hw)
def pe (ha:PE X a ta) (hb:PE X (.BoolOp .And (b::rest) pos) tb):PE X (.BoolOp .And (a::b::rest) pos) (Cd ta tb):=by
 intro pins s σ H Q I h;refine BoolOp_and (aQ (ha pins s σ H _ I h) λv s1 z10_=>?_);let#[x,H1,I1,r1,q1]:=z10_;let#[c,rfl,q1]:=q1;cases r1;refine KS ?_;cases c with
 | true=>exact hb pins s1 σ H1 Q I1 q1
 | false=>show#[.bl false,H1,I1,rfl,q1]
def DV (ha:PE X a ta):PE X (.UnaryOp .Not a pos) (FO ta):=by intro pins s σ H Q I h;refine UnaryOp_ (aQ (ha pins s σ H _ I h) λv s1 z12_=>?_);let#[x,H1,I1,r1,q1]:=z12_;let#[c,rfl,q1]:=q1;cases r1;exact not_of (KS #[.bl (!c),H1,I1,rfl,q1])
abbrev tIf (t:TT) (ta tb:TE):TE:=λσ H Q=>t σ H λc H1=>if c=true then ta σ H1 Q else tb σ H1 Q
def mG {c:Expr} (hc:PT X c tA) (ha:PE X a ta) (hb:PE X b tb):PE X (.IfExp c a b pos) (tIf tA ta tb):=by
 intro pins s σ H Q I h;refine wpAny_IfExp (aQ (hc pins s σ H _ I h) λd s1 z13_=>?_);let#[H1,I1,q1]:=z13_;cases d with
 | true=>exact ha pins s1 σ H1 Q I1 q1
 | false=>exact hb pins s1 σ H1 Q I1 q1
end
abbrev aH (K:MW) (H:Hp) (a:MV) (xs:List V):Prop :=
 Rd H a (.lst xs) \/
   ∃(o:Obj) (its:Array MT) (n:Nat),K.lookup a=⇑o/\o.cls=.type "list"/\o.dict=none/\o.data=.seq its n/\its.size<=sizeLine/\aV xs its.toList
abbrev aJ (K:MW) (H:Hp) (a:MV) (xs:List V):Prop :=
 Rd H a (.tup xs) \/
   ∃(o:Obj) (its:Array MT) (n:Nat),K.lookup a=⇑o/\o.cls=.type "tuple"/\o.data=.seq its n/\its.size<=sizeLine/\aV xs its.toList
abbrev FW:MT->JM V
 | .none=>some .non
 | .bool b=>⇑(.bl b)
 | .int i _=>⇑(.int i)
 | .str x _=>⇑(.str x)
 | .bytes b _=>⇑(.byt b)
 | .float b _=>⇑(.flt b)
 | .ref a=>⇑↥a
 | .type n=>⇑(.ty n)
 | _=>none
def af.abs {x:V} (r:af x u):FW u=⇑x:=by
 cases x with
 | non=>cases r; rfl
 | bl _=>cases r; rfl
 | int _=>let#[t,rfl]:=r; rfl
 | str _=>let#[t,rfl]:=r; rfl
 | byt _=>let#[t,rfl]:=r; rfl
 | flt _=>let#[t,rfl]:=r; rfl
 | ref _=>cases r; rfl
 | ty _=>cases r; rfl
def af.inj {x y:V} {u:MT} (r:af x u) (q:af y u):x=y:=Option.some.inj (r.abs.symm\q.abs)
def aV.inj:∀{xs ys:List V} {us:List MT},aV xs us->aV ys us->xs=ys:=by
 intro xs ys us h h'
 induction h generalizing ys with
 | nil=>cases h'; rfl
 | cons r t ih =>
   cases h' with
   | cons r' t'=>rw[r.inj r',ih t']
variable {K:MW}
section
variable {X:Cx} {pins:List (MV×Obj)} {σ:St} {H:Hp} {s:MU} {a:MV} {xs ys:List V}
def aH.of (h:H a=⇑(.lst xs)):aH K H a xs:=.inl (.inl h)
def aJ.of (h:H a=⇑(.tup xs)):aJ K H a xs:=.inl (.inl h)
def Inv.list (I:Inv X pins σ H s) (h:aH X.K H a xs):∃its:List MT,aV xs its/\PlainL s.heap a its.toArray/\xs.length<=sizeLine:=by
 rcases h with h|⟨o,its,n,hk,hc,hd,hs,hz,r⟩
 . let#[z,its,n,r,e]:=h.ok I.hok;show#[its,r,#[_,n,e,15],z]
 . show#[its.toList,r,#[o,n,I.kIn a o hk,hc,hd,by simpa using hs],?_];have e:=r.length;simp only[Ll] at e
   lia
def Inv.tuple (I:Inv X pins σ H s) (h:aJ X.K H a xs):∃its:List MT,aV xs its/\IsTup s.heap a its.toArray/\xs.length<=sizeLine:=by
 rcases h with h|⟨o,its,n,hk,hc,hs,hz,r⟩
 . let#[z,its,r,p]:=h.ok I.hok;show#[its,r,p,z]
 . show#[its.toList,r,#[o,I.kIn a o hk,hc,n,by simpa using hs],?_];have e:=r.length;simp only[Ll] at e
   lia
def Inv.list_inj (I:Inv X pins σ H s) (h:aH X.K H a xs) (h':aH X.K H a ys):xs=ys:=by
 obtain⟨its,r,⟨o,n,e,_,_,d⟩,_⟩:=I.list h;obtain⟨its',r',⟨o',n',e',_,_,d'⟩,_⟩:=I.list h';rw[e] at e'; cases e';rw[d] at d';injection d' with d1 _
 have:its=its':=by simpa using Jj Array.toList d1
 subst this;exact r.inj r'
def Inv.tuple_inj (I:Inv X pins σ H s) (h:aJ X.K H a xs) (h':aJ X.K H a ys):xs=ys:=by
 obtain⟨its,r,⟨o,e,_,n,d⟩,_⟩:=I.tuple h;obtain⟨its',r',⟨o',e',_,n',d'⟩,_⟩:=I.tuple h';rw[e] at e'; cases e';rw[d] at d';injection d' with d1 _
 have:its=its':=by simpa using Jj Array.toList d1
 subst this;exact r.inj r'
end
noncomputable abbrev Cx.wish (X:Cx) (E:MT->MU->Prop):Cx:={ X with xe:=E }
noncomputable abbrev Cx.nox (X:Cx):Cx:=X.wish λ_ _=>False
variable {X:Cx}
def Cx.Ok.wish (ok:X.Ok) (E:MT->MU->Prop):(X.wish E).Ok :=
 #[ok.mod,ok.kind,ok.glob,ok.blt,ok.above,ok.inj,ok.has,ok.cab,ok.hd,ok.frames,ok.stk,ok.exf,ok.bs,ok.bsz,ok.noex,ok.exfs,ok.funs,ok.frf]
def Cx.Ok.unwish (ok:(X.wish E).Ok):X.Ok :=
 #[ok.mod,ok.kind,ok.glob,ok.blt,ok.above,ok.inj,ok.has,ok.cab,ok.hd,ok.frames,ok.stk,ok.exf,ok.bs,ok.bsz,ok.noex,ok.exfs,ok.funs,ok.frf]
section
variable {X:Cx} {pins:List (MV×Obj)} {σ:St} {H:Hp} {s:MU} {E:MT->MU->Prop}
def Inv.wish (I:Inv X pins σ H s) (E:MT->MU->Prop):Inv (X.wish E) pins σ H s:=#[I.ok.wish E,I.os,I.bare,I.base,I.loc,I.cell,I.free,I.freeC,I.pin,I.hok,I.len]
def Inv.unwish (I:Inv (X.wish E) pins σ H s):Inv X pins σ H s:=#[I.ok.unwish,I.os,I.bare,I.base,I.loc,I.cell,I.free,I.freeC,I.pin,I.hok,I.len]
def SP.unwish {D:cj} {f:Flow} {s':MU} (h:SP (X.wish E) pins D f s'):SP X pins D f s':=by
 cases f with
 | next=>let#[σ',H',I,q]:=h; show#[σ',H',I.unwish,q]
 | brk=>let#[σ',H',I,q]:=h; show#[σ',H',I.unwish,q]
 | cont=>let#[σ',H',I,q]:=h; show#[σ',H',I.unwish,q]
 | ret u=>let#[v,σ',H',I,r,q]:=h; show#[v,σ',H',I.unwish,r,q]
def dn.nox {st:List Stmt} {t:TS} (h:dn X.nox st t):dn X st t:=λpins s σ H D I hw =>
 Ki (h pins s σ H D (I.wish _) hw) (λ_ _ q=>q.unwish) λ_ _ z=>False.elim z
end
section
variable {X:Cx} {st:Stmt} {rest:List Stmt} {t u:TS} {e:Expr} {te:TE} {pos:Pos}
abbrev uY:TS:=λD σ H=>D.nx σ H
abbrev yZ (t u:TS):TS:=λD σ H=>t { D with nx:=u D } σ H
def ax:dn X [] uY:=λ_ _ σ H _ I h=>Le #[σ,H,I,h]
def aI (h1:PS X st t) (h2:dn X rest u):dn X (st::rest) (yZ t u):=by
 intro pins s σ H D I h;refine M3 (aQ (h1 pins s σ H { D with nx:=u D } I h) λf s1 q=>?_);cases f with
 | next =>
   let#[σ',H',I',q]:=q;exact h2 pins s1 σ' H' D I' q
 | ret v=>exact q
 | brk=>exact q
 | cont=>exact q
def aL (h1:PS X st t):dn X [st] t:=by
 intro pins s σ H D I h;refine M3 (aQ (h1 pins s σ H D I h) λf s1 q=>?_);cases f with
 | next=>exact Le q
 | ret v=>exact q
 | brk=>exact q
 | cont=>exact q
def Inv.quiet (I:Inv X pins σ H s):interactive X.env=false:=by simp [interactive,I.ok.kind]
abbrev Eu (te:TE):TS:=λD σ H=>te σ H λ_ H1=>D.nx σ H1
def cF (he:PE X e te) (hs:swapsWith e none pos.line X.env=pure false:=by rfl):PS X (.Expr e pos) (Eu te):=by intro pins s σ H D I h;exact wpAny_Expr_any (aQ (he pins s σ H _ I h) λv s1 z16_=>by let#[x,H1,I1,r1,q1]:=z16_; show#[σ,H1,I1,q1]) I.quiet hs
abbrev xM (te:TE):TS:=λD σ H=>te σ H D.rt
def aa (he:PE X e te):PS X (.Return ⇑e pos) (xM te):=by intro pins s σ H D I h;exact wpAny_Return_some (aQ (he pins s σ H _ I h) λv s1 z17_=>by let#[x,H1,I1,r1,q1]:=z17_; show#[x,σ,H1,I1,r1,q1])
abbrev wT (c:TT) (t u:TS):TS:=λD σ H=>c σ H λb H1=>if b=true then t D σ H1 else u D σ H1
def al {c:Expr} {a b:List Stmt} {tc:TT} (hc:PT X c tc) (ha:dn X a t) (hb:dn X b u):PS X (.If c a b pos) (wT tc t u):=by
 intro pins s σ H D I h;refine wpAny_If (aQ (hc pins s σ H _ I h) λd s1 z18_=>?_);let#[H1,I1,q1]:=z18_;cases d with
 | true=>exact ha pins s1 σ H1 D I1 q1
 | false=>exact hb pins s1 σ H1 D I1 q1
end
noncomputable abbrev TG:=V->St->Hp->(St->Hp->Prop)->Prop
noncomputable abbrev gi:=List V->St->Hp->(St->Hp->Prop)->Prop
abbrev PG (X:Cx) (target:Expr) (t:TG):Prop :=
 ∀(pins:List (MV×Obj)) (s:MU) (σ:St) (H:Hp) (v:V) (u:MT) (Q:St->Hp->Prop),Inv X pins σ H s->af v u->t v σ H Q ->
   wpAny 0x7 X.A (assign target X.env u) (λ_ s'=>∃σ' H',Inv X pins σ' H' s'/\Q σ' H') X.xe s
abbrev pP (X:Cx) (ts:List Expr) (t:gi):Prop :=
 ∀(pins:List (MV×Obj)) (s:MU) (σ:St) (H:Hp) (vs:List V) (us:List MT) (Q:St->Hp->Prop),Inv X pins σ H s->aV vs us->t vs σ H Q ->
   wpAny 0x7 X.A (assignInOrder ((assignEach ts X.env).map (·.2)) us) (λ_ s'=>∃σ' H',Inv X pins σ' H' s'/\Q σ' H') X.xe s
noncomputable abbrev qR:=V->V->V->Hp->(Hp->Prop)->Prop
abbrev vI (X:Cx) (t:qR):Prop :=
 ∀(pins:List (MV×Obj)) (s:MU) (σ:St) (H:Hp) (o i v:V) (ov iv u:MT) (Q:Hp->Prop),Inv X pins σ H s->af o ov->af i iv->af v u->t o i v H Q ->
   wpAny 0x7 X.A (setItem ov iv u) (λ_ s'=>∃H',Inv X pins σ H' s'/\Q H') X.xe s
noncomputable abbrev nK:=V->V->Hp->VK->Prop
abbrev PIp (X:Cx) (op:Operator) (t:nK):Prop :=
 ∀(pins:List (MV×Obj)) (s:MU) (σ:St) (H:Hp) (x y:V) (v u:MT) (Q:VK),Inv X pins σ H s->af x v->af y u->t x y H Q ->
   wpAny 0x7 X.A (inplaceOp op v u) (EP X pins σ Q) X.xe s
variable {tg:Expr} {te:TE} {g:TG}
section
variable {X:Cx} {pos:Pos}
abbrev kO (i:Nat):TG:=λv σ H Q=>Q (σ.set i ⇑v) H
def aW (hN:X.N.Nodup) (hi:X.N[i]?=⇑x) (hx:kQ X.env.scope x) (hf:X.fn x=true\/X.env.scope.names.lookup x=some .local:=by first|exact .inl rfl|exact .inr rfl|assumption):PG X (.Name x pos) (kO i):=by intro pins s σ H v u Q I r h;exact wpAny_assign_Name (so I hN hi hx r (λs' I'=>#[_,H,I',h]) hf)
abbrev yb:gi:=λvs σ H Q=>vs=[]/\Q σ H
abbrev wQ (t:TG) (u:gi):gi:=λvs σ H Q=>∃v r,vs=v::r/\t v σ H λσ' H'=>u r σ' H' Q
def dB:pP X [] yb:=by intro pins s σ H vs us Q I r h;let#[e,h]:=h;subst e;cases r;exact assignInOrder_nil #[σ,H,I,h]
def bP {e:Expr} {es:List Expr} {t:TG} {u:gi} (h1:PG X e t) (h2:pP X es u)
   (hs:(assignEach (e::es) X.env).map (·.2)=assign e X.env::(assignEach es X.env).map (·.2):=by rfl):pP X (e::es) (wQ t u):=by
 intro pins s σ H vs us Q I r h;let#[v,vr,e1,h]:=h;subst e1;cases r with
 | cons r rr =>
   rw[hs];refine assignInOrder_cons (aQ (h1 pins s σ H _ _ _ I r h) λ_ s1 z19_=>?_);let#[σ1,H1,I1,q1]:=z19_;exact h2 pins s1 σ1 H1 _ _ Q I1 rr q1
abbrev jt (K:MW) (n:Nat) (t:gi):TG:=λv σ H Q=>∃a xs,v=↥a/\aJ K H a xs/\xs.length=n/\t xs σ H Q
def dC {es:List Expr} {k:Nat} {t:gi} {n:Nat} (hc:X.calm=true) (h:pP X es t)
   (hn:(assignEach es X.env).length=n:=by rfl) (hst:(assignEach es X.env).findIdx? (·.1)=none:=by rfl):PG X (.Tuple es k pos) (jt X.K n t):=by
 intro pins s σ H v u Q I r hw;let#[a,xs,e1,hq,hl,hw]:=hw;subst e1;cases r;let#[its,rv,ht,hz]:=I.tuple hq;refine assign_Tuple_tuple (I.ok.hd hc) ht (by simp [hn,<- hl,rv.length]) hst λh' hx=>?_;have I1:Inv X pins σ H { s with heap:=h' }:=I.kept (t':=s.toks) λb o e=>hx b o (Jn (JU e)) e;exact h pins _ σ H xs _ Q I1 ↑rv hw
abbrev CU (to ti:TE) (t:qR):TG:=λv σ H Q=>to σ H λo H1=>ti σ H1 λi H2=>t o i v H2 λH3=>Q σ H3
def kC {o i:Expr} {to ti:TE} {t:qR} (ho:PE X o to) (hi:PE X i ti) (hs:vI X t)
   (ha:∀v,assign (.Subscript o i pos) X.env v=(do
     let ov <- holding [v] (eval o X.env)
     let iv <- holding [v,ov] (eval i X.env)
     standAt pos
     holding [v,ov,iv] (setItem ov iv v)
     release [v,ov,iv] []):=by intro _; rfl):PG X (.Subscript o i pos) (CU to ti t):=by
 intro pins s σ H v u Q I r h;rw[ha];refine J8 (KY (aQ (ho pins s σ H _ I h) λov s1 z20_=>?_));let#[x,H1,I1,r1,q1]:=z20_;refine J8 (KY (aQ (hi pins s1 σ H1 _ I1 q1) λiv s2 z21_=>?_));let#[y,H2,I2,r2,q2]:=z21_;refine J8 (LB (J8 (KY (aQ (hs pins s2 σ H2 x y v ov iv u _ I2 r1 r2 r q2) λ_ s3 z22_=>?_))));let#[H3,I3,q3]:=z22_;exact wpAny_release #[σ,H3,I3,q3]
abbrev sr (te:TE) (g:TG):TS:=λD σ H=>te σ H λx H1=>g x σ H1 D.nx
def i5 {e:Expr}(he:PE X e te) (hg:PG X tg g) (hs:swapsWithSole [tg] e pos.line X.env=pure false:=by rfl) (hw:swappedStores [tg] e X.env=pure none:=by rfl)
   (h1:(assignEach [tg] X.env).map (·.2)=[assign tg X.env]:=by rfl):PS X (.Assign [tg] e pos) (sr te g):=by
 intro pins s σ H D I h;refine wpAny_Assign_stores (aQ (he pins s σ H _ I h) λv s1 z23_=>?_) hs hw;let#[x,H1,I1,r1,q1]:=z23_;rw[h1];exact aQ (hg pins s1 σ H1 x v _ I1 r1 q1) λ_ s2 q=>q
def aO {i:Nat} {x:Str} {e:Expr} {te:TE} {pos':Pos} (hN:X.N.Nodup) (hi:X.N[i]?=⇑x) (hx:kQ X.env.scope x) (he:PE X e te) (hs:swapsWith e ⇑(.Name x pos') pos.line X.env=pure false:=by rfl) (hf:X.fn x=true\/X.env.scope.names.lookup x=some .local:=by first|exact .inl rfl|exact .inr rfl|assumption) :
   PS X (.Assign [.Name x pos'] e pos) (sr te (kO i)):=by
 intro pins s σ H D I h;refine wpAny_Assign_Name (aQ (he pins s σ H _ I h) λv s1 z24_=>?_) hs;let#[y,H1,I1,r1,q1]:=z24_;exact so I1 hN hi hx r1 (λs2 I2=>#[_,H1,I2,q1]) hf
abbrev Et (i:Nat) (te:TE) (ti:nK):TS:=λD σ H=>∃x,σ[i]?=⇑⇑x/\te σ H λy H1=>ti x y H1 λz H2=>D.nx (σ.set i ⇑z) H2
def DD {e:Expr} {op:Operator} {ti:nK} {pos':Pos} (hN:X.N.Nodup) (hi:X.N[i]?=⇑x) (hx:kQ X.env.scope x) (he:PE X e te) (ho:PIp X op ti) (hf:X.fn x=true\/X.env.scope.names.lookup x=some .local:=by first|exact .inl rfl|exact .inr rfl|assumption) :
   PS X (.AugAssign (.Name x pos') op e pos) (Et i te ti):=by
 intro pins s σ H D I h;let#[v,e1,h]:=h;let#[m,hn,hl]:=I.loc;have vis:kt X.env.scope x:=by rcases hx with k|k; exact .inl k; exact .inr (.inl k)
 let#[u,r,l]:=hl i x v hi e1 vis;refine wpAny_AugAssign_Name ?_;have go:wpAny 0x7 X.A (eval e X.env) (λw s₂=>wpAny 0x7 X.A (inplaceOp op u w) (λr s₃=>wpAny 0x7 X.A (storeName X.env x r) (λ_=>SP X pins D .next) X.xe s₃) X.xe s₂) X.xe s:=by refine aQ (he pins s σ H _ I h) λw s1 z26_=>?_;let#[y,H1,I1,r1,q1]:=z26_;refine aQ (ho pins s1 σ H1 v y u w _ I1 r r1 q1) λz s2 z27_=>?_;let#[zv,H2,I2,r2,q2]:=z27_;exact so I2 hN hi hx r2 (λs3 I3=>#[_,H2,I3,q2]) hf
 rcases l with⟨hk,hm⟩|⟨hk,c,hc,hcell⟩
 . exact wpAny_loadName_local I.ok.kind hk hn hm go
 . rcases hk with hk|hk
   . exact wpAny_loadName_cell I.ok.kind hk hc hcell go
   . rcases hx with k|k
     . have:X.env.scope.names.lookup x=some .free:=hk;rw[k] at this; cases this
     . have:X.env.scope.names.lookup x=some .free:=hk;rw[k] at this; cases this
abbrev ipI (f:Int->Int->Int):nK:=λx y H Q=>∃i j,x=.int i/\y=.int j/\Q (.int (f i j)) H
def vx:PIp X .Add (ipI λi j=>i+j):=by intro pins s σ H x y v u Q I r1 r2 h;let#[i,j,e1,e2,q]:=h;subst e1; subst e2;let#[t,rfl]:=r1;let#[t',rfl]:=r2;exact iadd_int #[.int _,H,I.tok _,#[5],q]
end
variable {tb:TS}
section
variable {X:Cx} {pos:Pos}
abbrev xV (c:TT) (tb:TS):TS:=λD σ H=>∃W:Nat->St->Hp->Prop,(∃m,W m σ H)/\∀m σ H,W m σ H ->
 c σ H λb H1=>if b=true then ∃N:St->Hp->Prop,(∀σ' H',N σ' H'->∃m',m'<m/\W m' σ' H')/\tb { D with nx:=N,ct:=N,bk:=D.nx } σ H1 else D.nx σ H1
def D8 {c:Expr} {body:List Stmt} {tc:TT} (hp:PassesOwn 0x7 X.A X.env X.xe) (hc:PT X c tc) (hb:dn X body tb):PS X (.While c body [] pos) (xV tc tb):=by
 intro pins s σ H D I h;obtain⟨W,⟨m0,w0⟩,turn⟩:=h;refine wpAny_While (codeAny_whileLoop (λn s'=>∃σ' H',Inv X pins σ' H' s'/\W n σ' H') ?_ m0 #[σ,H,I,w0]);rintro n s1 ⟨σ1,H1,I1,w1⟩;refine Kn hp (aQ (hc pins s1 σ1 H1 _ I1 (turn n σ1 H1 w1)) λb s2 z34_=>?_);let#[H2,I2,q2]:=z34_;cases b with
 | true =>
   let#[N,hN,q2]:=q2;rw[JJ rfl];refine Kn hp (aQ (hb pins s2 σ1 H2 _ I2 q2) λf s3 q3=>?_);cases f with
   | next =>
     let#[σ3,H3,I3,n3]:=q3;let#[m',hm,w3]:=hN σ3 H3 n3;show#[m',hm,σ3,H3,I3,w3]
   | cont =>
     let#[σ3,H3,I3,n3]:=q3;let#[m',hm,w3]:=hN σ3 H3 n3;show#[m',hm,σ3,H3,I3,w3]
   | brk=>exact q3
   | ret v=>exact q3
 | false =>
   rw[JI JP];exact Le #[σ1,H2,I2,q2]
end
structure It where
 go:Nat->Hp->Prop
 yld:Nat->Hp->V->Hp->Prop
 stop:Nat->Hp->Prop
abbrev eS (X:Cx) (pins:List (MV×Obj)) (H:Hp) (b:MV):Prop :=
 H b=none/\b≠X.env.locals/\b ∉ X.fs/\(b∈X.ex\/X.s₀.heap.objs.size<=b)/\(∀x c,X.env.cells.lookup x=⇑c->c≠b)/\∀p∈X.pn++pins,p.1≠b
def Inv.fpOk {H':Hp}(I:Inv X pins σ H s) (hb:s.heap.objs.size<=b) (hn:H' b=none):eS X pins H' b:=by
 show#[hn,Kl (Jb I.lt hb),I.nofs hb,.inr (Jo I.sz hb),λx c e z=>?_,λp hp z=>?_]
 . let#[v,q]:=I.cell x c e;exact absurd (Jb q.lt (by rw[z]; exact hb)) (Ju _)
 . exact absurd (Jb (JU (I.pin p hp).1) (by rw[z]; exact hb)) (Ju _)
structure Turn (P:Program) (w:World) (K:W.Frag) (tg:Expr) (J:It) (fp:List Addr) (it:Addr) (tn:Nat->Heap->Prop):Prop where
 mem:it∈fp
 obj:∀i h,tn i h->∀b∈fp,∃o,h.get? b=⇑o/\∀v,o.data≠.cell v
 keep:∀i h h',tn i h->(∀b∈fp,∀o,h.get? b=⇑o->h'.get? b=⇑o)->tn i h'
 item:∀(X:Cx),X.prog=P->X.w=w->X.K=K->X.calm=true->∀(i:Nat) (pins:List (Addr×Obj)) (s:Shared) (σ:St) (H:Hp) (E:Value->Shared->Prop),Inv X pins σ H s->(∀b∈fp,eS X pins H b)->tn i s.heap->J.go i H ->
   wpAny (model P w) X.A (pyNext ↥it) (λr s1=>∃u,r=⇑u /\
     wpAny (model P w) X.A (letOwnedTupleGo tg ↥it u) (λ_ s2=>∃x H',Inv X pins σ H' s2/\af x u/\J.yld i H x H'/\tn (i+1) s2.heap/\∀b∈fp,H' b=none) E s1) E s
 done:∀(X:Cx),X.prog=P->X.w=w->X.K=K->X.calm=true->∀(i:Nat) (pins:List (Addr×Obj)) (s:Shared) (σ:St) (H:Hp) (E:Value->Shared->Prop),Inv X pins σ H s->(∀b∈fp,eS X pins H b)->tn i s.heap->J.stop i H ->
   wpAny (model P w) X.A (pyNext ↥it) (λr s1=>r=none/\Inv X pins σ H s1) E s
 self:∀(A:Around) (i:Nat) (s:Shared) (Q:Value->Shared->Prop) (E:Value->Shared->Prop),tn i s.heap->Q ↥it s->wpAny (model P w) A (pyIter ↥it) Q E s
noncomputable abbrev TI:=St->Hp->(It->Hp->Prop)->Prop
abbrev PIE (X:Cx) (pins:List (MV×Obj)) (σ:St) (tg:Expr) (R:It->Hp->Prop) (itv:MT) (s2:MU):Prop :=
 ∃(it:MV) (fp:List MV) (tn:Nat->Heap->Prop) (J:It) (H':Hp),itv=↥it/\Inv X pins σ H' s2/\Turn X.prog X.w X.K tg J fp it tn/\tn 0 s2.heap/\(∀b∈fp,eS X pins H' b)/\R J H'
abbrev PI (X:Cx) (tg iter:Expr) (wi:TI):Prop :=
 ∀(pins:List (MV×Obj)) (s:MU) (σ:St) (H:Hp) (R:It->Hp->Prop),Inv X pins σ H s->wi σ H R ->
   wpAny 0x7 X.A (eval iter X.env) (λv s1=>wpAny 0x7 X.A (pyIter v) (PIE X pins σ tg R) X.xe s1) X.xe s
def lK {it:MV} {o:Obj} {n:String} {vs:Array MT} {Q:Unit->MU->Prop} (ho:s.heap.get? it=⇑o) (hc:o.cls=.type n) (hd:o.data=.fields vs)
   (hn:["enumerate","zip","dict_itemiterator","dict_reverseitemiterator","odict_iterator","itertools.zip_longest","itertools.pairwise"].contains n=false) (hQ:Q () s):wpAny M A (letOwnedTupleGo tg ↥it u) Q E s:=by
 unfold letOwnedTupleGo;cases tg <;> first
   | exact JO hQ
   | (cases u <;> first
       | exact JO hQ
       | (refine J8 (wpAny_load ho ?_)
          rw[hc,hd];show wpAny M A (if(["enumerate","zip","dict_itemiterator","dict_reverseitemiterator","odict_iterator","itertools.zip_longest","itertools.pairwise"].contains n&&vs[0]?==⇑(rawInt _))=true then _ else _) Q E s;rw[JI (by intro h; rw[hn,Bool.false_and] at h; cases h)];exact JO hQ))
abbrev kX (K:MW) (a:MV):It :=
 #[λi H=>∃xs x,aH K H a xs/\xs[i]?=⇑x,λi H x H'=>H'=H/\∀xs,aH K H a xs->xs[i]?=⇑x,λi H=>∃xs,aH K H a xs/\xs.length<=i]
abbrev kN (K:MW) (a:MV):It :=
 #[λi H=>∃xs x,aJ K H a xs/\xs[i]?=⇑x,λi H x H'=>H'=H/\∀xs,aJ K H a xs->xs[i]?=⇑x,λi H=>∃xs,aJ K H a xs/\xs.length<=i]
abbrev jH (lo:Int) (n:Nat):It:=#[λi _=>i<n,λi H x H'=>H'=H/\x=.int (lo+i),λi _=>n<=i]
def Bj (a it:MV):Turn P w K tg (kX K a) [it] it (λi h=>h.IsListIter it a i) where
 mem:=by simp
 obj:=λi h st b hb=>by
   have e:b=it:=↑hb
   subst e;let#[o,e,c,d]:=st;show#[o,e,λv z=>by rw[d] at z; cases z]
 keep:=λi h h' st k=>st.at λo e=>k it 0xB o e
 item:=by intro X hP hw hK hc i pins s σ H E I hf st hg;subst hP hw hK;let#[xs,x,hq,hx]:=hg;let#[its,rv,p,hz]:=I.list hq;let#[u,hu,ru]:=rv.get hx;let#[f0,f1,f2,f3,f4,f5]:=hf it 0xB;refine wpAny_pyNext_list_item st p.isList (x:=u) ↑hu λh' st' sb=>?_;have I1:Inv X pins σ H { s with heap:=h' }:=I.turned (t':=s.toks) (λb o hb e=>(sb.2 b hb)\e) f0 f1 f3 f4 f5;let#[o,e,c,d]:=id st';show#[u,rfl,lK (s:={ s with heap:=h' }) e c d #[] #[x,H,I1,ru,#[rfl,λys hy=>by rw[I.list_inj hy hq]; exact hx],st',λb hb=>(hf b hb).1]]
 done:=by intro X hP hw hK hc i pins s σ H E I hf st hg;subst hP hw hK;let#[xs,hq,hx]:=hg;let#[its,rv,p,hz]:=I.list hq;let#[f0,f1,f2,f3,f4,f5]:=hf it 0xB;have hl:=rv.length;exact wpAny_pyNext_list_end (I.ok.hd hc) st p.isList (by simp; lia) λh' eb=>#[rfl,I.turned (t':=s.toks) (λb o hb e=>eb b o hb e) f0 f1 f3 f4 f5]
 self:=λ_ _ _ _ _ st h=>wpAny_pyIter_listiter st h
def Fm (a it:MV):Turn P w K tg (kN K a) [it] it (λi h=>h.IsTupleIter it a i) where
 mem:=by simp
 obj:=λi h st b hb=>by
   have e:b=it:=↑hb
   subst e;let#[o,e,c,d]:=st;show#[o,e,λv z=>by rw[d] at z; cases z]
 keep:=λi h h' st k=>st.at λo e=>k it 0xB o e
 item:=by intro X hP hw hK hc i pins s σ H E I hf st hg;subst hP hw hK;let#[xs,x,hq,hx]:=hg;let#[its,rv,p,hz]:=I.tuple hq;let#[u,hu,ru]:=rv.get hx;let#[f0,f1,f2,f3,f4,f5]:=hf it 0xB;refine wpAny_pyNext_tuple_item st (show s.heap.IsTuple a its.toArray from p) (x:=u) ↑hu λh' st' sb=>?_;have I1:Inv X pins σ H { s with heap:=h' }:=I.turned (t':=s.toks) (λb o hb e=>(sb.2 b hb)\e) f0 f1 f3 f4 f5;let#[o,e,c,d]:=id st';show#[u,rfl,lK (s:={ s with heap:=h' }) e c d #[] #[x,H,I1,ru,#[rfl,λys hy=>by rw[I.tuple_inj hy hq]; exact hx],st',λb hb=>(hf b hb).1]]
 done:=by intro X hP hw hK hc i pins s σ H E I hf st hg;subst hP hw hK;let#[xs,hq,hx]:=hg;let#[its,rv,p,hz]:=I.tuple hq;let#[f0,f1,f2,f3,f4,f5]:=hf it 0xB;have hl:=rv.length;exact wpAny_pyNext_tuple_end (I.ok.hd hc) st (show s.heap.IsTuple a its.toArray from p) (by simp; lia) λh' eb=>#[rfl,I.turned (t':=s.toks) (λb o hb e=>eb b o hb e) f0 f1 f3 f4 f5]
 self:=λ_ _ _ _ _ st h=>wpAny_pyIter_tupleiter st h
def GD (it:MV) (lo:Int) (n:Nat):Turn P w K tg (jH lo n) [it] it (λi h=>IsRangeIter h it (lo+(i:Nat) * 1) ((n:Int) - (i:Nat)) 1) where
 mem:=by simp
 obj:=λi h st b hb=>by
   have e:b=it:=↑hb
   subst e;show#[_,st,λv z=>by have z':Data.fields _=Data.cell v:=z;cases z']
 keep:=λi h h' st k=>k it 0xB _ st
 item:=by intro X hP hw hK hc i pins s σ H E I hf st hg;subst hP hw hK;let#[f0,f1,f2,f3,f4,f5]:=hf it 0xB;have W:=Walks.range (prog:=X.prog) (w:=X.w) (I.ok.hd hc) it lo 1 n;refine W.item i s _ _ hg st λv h' tk hv st' kk=>?_;let#[t,rfl]:=hv;have I1:Inv X pins σ H { s with heap:=h',toks:=tk }:=I.turned (λb o hb e=>kk b o ↑hb e) f0 f1 f3 f4 f5;show#[5,lK (s:={ s with heap:=h',toks:=tk }) (n:="range_iterator") st' rfl rfl #[] #[.int (lo+i),H,I1,#[t,?_],#[7],st',λb hb=>(hf b hb).1]];rw[Int.mul_one]
 done:=by intro X hP hw hK hc i pins s σ H E I hf st hg;subst hP hw hK;let#[f0,f1,f2,f3,f4,f5]:=hf it 0xB;exact wpAny_pyNext_range_end (I.ok.hd hc) st (by have:n<=i:=hg; lia) λh' eb=>#[rfl,I.turned (t':=s.toks) (λb o hb e=>eb b o hb e) f0 f1 f3 f4 f5]
 self:=λ_ _ _ _ _ st h=>wpAny_pyIter_rangeiter st h
section
variable {X:Cx} {tg:Expr}
abbrev BB (K:MW) (tl:TE):TI:=λσ H R=>tl σ H λx H1=>∃a,x=↥a/\(∃xs,aH K H1 a xs)/\R (kX K a) H1
abbrev EU (K:MW) (tl:TE):TI:=λσ H R=>tl σ H λx H1=>∃a,x=↥a/\(∃xs,aJ K H1 a xs)/\R (kN K a) H1
def fe {l:Expr} {tl:TE} (hl:PE X l tl):PI X tg l (BB X.K tl):=by
 intro pins s σ H R I h;refine aQ (hl pins s σ H _ I h) λv s1 z35_=>?_;let#[x,H1,I1,r1,q1]:=z35_;obtain⟨a,e,⟨xs,hq⟩,q⟩:=q1;subst e;cases r1;let#[its,rv,p,hz]:=I1.list hq;refine Kj p.isList ?_;show#[s1.heap.objs.size,[s1.heap.objs.size],4,H1,rfl,I1.kept (t':=s1.toks) λb o e=>JD _ e,Bj a _,#[_,Ja _ rfl,7],λb hb=>?_,q];have e:b=s1.heap.objs.size:=↑hb
 subst e;exact I1.fpOk (JG _) (I1.hok.fresh (JG _))
def sv {l:Expr} {tl:TE} (hl:PE X l tl):PI X tg l (EU X.K tl):=by
 intro pins s σ H R I h;refine aQ (hl pins s σ H _ I h) λv s1 z36_=>?_;let#[x,H1,I1,r1,q1]:=z36_;obtain⟨a,e,⟨xs,hq⟩,q⟩:=q1;subst e;cases r1;let#[its,rv,p,hz]:=I1.tuple hq;refine Kc (show s1.heap.IsTuple a its.toArray from p) ?_;show#[s1.heap.objs.size,[s1.heap.objs.size],4,H1,rfl,I1.kept (t':=s1.toks) λb o e=>JD _ e,Fm a _,#[_,Ja _ rfl,7],λb hb=>?_,q];have e:b=s1.heap.objs.size:=↑hb
 subst e;exact I1.fpOk (JG _) (I1.hok.fresh (JG _))
def Ec {R:It->Hp->Prop} {lo hi:Int} {t u v:Tok} {tk:Nat} (I:Inv X pins σ H s) (h1:-(2 ^ 62)<=lo) (h2:lo<2 ^ 62) (h3:-(2 ^ 62)<=hi) (h4:hi<2 ^ 62)
   (q:R (jH lo (hi - lo).toNat) H):wpAny 0x7 X.A (pyIter ↥s.heap.objs.size) (PIE X pins σ tg R) E { s with heap:=s.heap.push { cls:=.type "range",data:=.fields (List.toArray [.int lo t,.int hi u,.int 1 v]) },toks:=tk }:=by
 refine wpAny_pyIter_range (IsRange.new ..) (small_one h1 h2 h3 h4) ?_;have I1:Inv X pins σ H { s with heap:=s.heap.push { cls:=.type "range",data:=.fields (List.toArray [.int lo t,.int hi u,.int 1 v]) },toks:=tk }:=I.kept λb o e=>JD _ e;show#[(s.heap.push { cls:=.type "range",data:=.fields (List.toArray [.int lo t,.int hi u,.int 1 v]) }).objs.size,[(s.heap.push { cls:=.type "range",data:=.fields (List.toArray [.int lo t,.int hi u,.int 1 v]) }).objs.size],4,H,rfl,
   I1.kept (t':=tk) λb o e=>JD _ e,GD _ lo (hi - lo).toNat,?_,λb hb=>?_,q]
 . have e1:lo+((0:Nat):Int) * 1=lo:=by simp
   have e2:(((hi - lo).toNat:Nat):Int) - ((0:Nat):Int)=Builtin.Range.rangeSize lo hi 1:=by rw[rangeSize_one]; split <;> lia
   show IsRangeIter _ _ (lo+((0:Nat):Int) * 1) ((((hi - lo).toNat:Nat):Int) - ((0:Nat):Int)) 1;rw[e1,e2];exact Ja _ rfl
 . have e:b=(s.heap.push { cls:=.type "range",data:=.fields (List.toArray [.int lo t,.int hi u,.int 1 v]) }).objs.size:=↑hb
   subst e;exact I1.fpOk (JG _) (I1.hok.fresh (JG _))
abbrev Fo (ta:TA):TI:=λσ H R=>ta σ H λvs H1=>∃j:Int,vs=[.int j]/\-(2 ^ 62)<=j/\j<2 ^ 62/\R (jH 0 j.toNat) H1
def cW {a:Expr} {ta:TA} {p:Pos}(hg:Gl X "range") (hm:X.mg "range"=none) (ha:PA X [a] ta) (hs:starEach [a] X.env=[(false,eval a X.env)]:=by rfl):PI X tg (.Call (.Name "range" p) [a] [] pos) (Fo ta):=by
 intro pins s σ H R I h;refine Call_ (ij I hg hm boot_range (KE (aQ (ha pos pins s σ H _ I h) λus s1 z37_=>?_) hs rfl));let#[vs,H1,I1,r1,q1]:=z37_;let#[j,e,q1,q2,q]:=q1;subst e;cases r1 with
 | cons r rr =>
   cases rr;let#[t,rfl]:=r;exact call_range_1 (Ec I1 ∅ ∅ q1 q2 ↑q)
abbrev D3 (wi:TI) (g:TG) (tb:TS):TS:=λD σ H=>wi σ H λJ H1=>∃W:Nat->Nat->St->Hp->Prop,(∃m,W 0 m σ H1)/\∀i m σ H,W i m σ H ->
 (J.stop i H/\D.nx σ H)\/(J.go i H/\∃N:St->Hp->Prop,(∀σ' H',N σ' H'->∃m',m'<m/\W (i+1) m' σ' H')/\∀x H',J.yld i H x H'->g x σ H' λσ2 H2=>tb { D with nx:=N,ct:=N,bk:=D.nx } σ2 H2)
abbrev kP (fp:List MV) (h:Heap):List (MV×Obj):=fp.filterMap λb=>(h.get? b).map λo=>(b,o)
def jx {fp:List MV} {o:Obj} (hb:b∈fp) (e:h.get? b=⇑o):(b,o)∈kP fp h:=List.mem_filterMap.mpr #[b,hb,by rw[e]; rfl]
def Fh {fp:List MV} {p:MV×Obj} (hp:p∈kP fp h):p.1∈fp/\h.get? p.1=⇑p.2:=by
 let#[b,hb,e]:=List.mem_filterMap.mp hp;cases q:h.get? b with
 | none=>rw[q] at e; cases e
 | some o =>
   rw[q] at e;have e':(b,o)=p:=Option.some.inj e;subst e';show#[hb,q]
def Inv.pinned {fp:List MV} (I:Inv X pins σ H s) (hf:∀b∈fp,eS X pins H b) (ho:∀b∈fp,∃o,s.heap.get? b=⇑o/\∀v,o.data≠.cell v):Inv X (pins++kP fp s.heap) σ H s :=
 I.pins_of λp hp=>(JZ.mp hp).elim (λz=>I.pin p (Jk _ z)) λz=>by let#[hb,e]:=Fh z;let#[f0,f1,f2,_]:=hf p.1 hb;let#[o,e',d]:=ho p.1 hb;rw[e] at e'; cases e';show#[e,f0,f1,f2,d]
def Inv.unpinned {pl:List (MV×Obj)}(I:Inv X (pins++pl) σ H s):Inv X pins σ H s:=I.pins_of λp hp=>I.pin p (Jk _ (Kh _ hp))
def cK {iter:Expr} {body:List Stmt} {wi:TI} (hp:PassesOwn 0x7 X.A X.env X.xe) (hc:X.calm=true) (hi:PI X tg iter wi) (hg:PG X tg g) (hb:dn X body tb)
   (hs:∀x,foldedSetIterable iter X.env x=pure x:=by intro _; rfl):PS X (.For tg iter body [] pos) (D3 wi g tb):=by
 intro pins s σ H D I h;refine wpAny_For (aQ (hi pins s σ H _ I h) λv s1 h1=>aQ h1 λitv s2 h2=>?_) hs;obtain⟨it,fp,tn,J,H2,e,I2,T,st2,f2,W,⟨m0,w0⟩,turn⟩:=h2;subst e
 -- what stays true of the iterator's objects through the loop
 have stat:∀{H':Hp},(∀b∈fp,H' b=none)->∀b∈fp,eS X pins H' b:=λhn b hb=>#[hn b hb,(f2 b hb).2]
 refine codeAny_forLoop_any (λn s'=>∃i σ' H',Inv X pins σ' H' s'/\tn i s'.heap/\(∀b∈fp,H' b=none)/\W i n σ' H') ?_ m0 #[(0),σ,H2,I2,st2,λb hb=>(f2 b hb).1,w0];rintro n s3 ⟨i,σ3,H3,I3,st3,fr3,w3⟩;rcases turn i n σ3 H3 w3 with⟨stop,qn⟩|⟨go,N,hN,step⟩
 . refine Kn hp (aQ (T.done X rfl rfl rfl hc i pins s3 σ3 H3 X.xe I3 (stat fr3) st3 stop) λr s4 z39_=>?_);let#[hr,I4]:=z39_;subst hr;exact Le #[σ3,H3,I4,qn]
 . refine Kn hp (aQ (T.item X rfl rfl rfl hc i pins s3 σ3 H3 X.xe I3 (stat fr3) st3 go) λr s4 z40_=>?_);let#[u,hr,h4]:=z40_;subst hr;refine Kn hp (aQ h4 λ_ s5 z41_=>?_);let#[x,H5,I5,r5,y5,st5,fr5]:=z41_;have I5':=I5.pinned (stat fr5) (T.obj _ _ st5);refine Kn hp (aQ (hg _ s5 σ3 H5 x u _ I5' r5 (step x H5 y5)) λ_ s6 z42_=>?_);let#[σ6,H6,I6,q6]:=z42_;refine Kn hp (aQ (hb _ s6 σ6 H6 _ I6 q6) λf s7 q7=>?_);have again:∀{σ7:St} {H7:Hp},Inv X (pins++kP fp s5.heap) σ7 H7 s7->N σ7 H7->∃m,m<n/\∃i σ' H',Inv X pins σ' H' s7/\tn i s7.heap/\(∀b∈fp,H' b=none)/\W i m σ' H':=λ{σ7 H7} I7 n7=>by let#[m',hm,w7]:=hN σ7 H7 n7;show#[m',hm,i+1,σ7,H7,I7.unpinned,T.keep _ _ _ st5 λb hb o e=>(I7.pin (b,o) (Jk _ (Jk _ (jx hb e)))).1,λb hb=>?_,w7];let#[o,e,d]:=T.obj _ _ st5 b hb;exact(I7.pin (b,o) (Jk _ (Jk _ (jx hb e)))).2.1
   cases f with
   | next=>let#[σ7,H7,I7,n7]:=q7; exact again I7 n7
   | cont=>let#[σ7,H7,I7,n7]:=q7; exact again I7 n7
   | brk=>let#[σ7,H7,I7,q7]:=q7; show#[σ7,H7,I7.unpinned,q7]
   | ret v=>let#[x7,σ7,H7,I7,r7,q7]:=q7; show#[x7,σ7,H7,I7.unpinned,r7,q7]
end
def m7 {xs:List V} {D:cj} (Pv:Nat->St->Hp->Prop) (h0:Pv 0 σ H) (hl:∀i σ H,i<=xs.length->Pv i σ H->aH K H a xs)
   (hs:∀i x σ H,xs[i]?=⇑x->Pv i σ H->g x σ H λσ2 H2=>tb { D with nx:=Pv (i+1),ct:=Pv (i+1),bk:=D.nx } σ2 H2) (hd:∀σ H,Pv xs.length σ H->D.nx σ H) :
   ∃W:Nat->Nat->St->Hp->Prop,(∃m,W 0 m σ H)/\∀i m σ H,W i m σ H ->
     ((kX K a).stop i H/\D.nx σ H)\/((kX K a).go i H/\∃N:St->Hp->Prop,(∀σ' H',N σ' H'->∃m',m'<m/\W (i+1) m' σ' H')/\∀x H',(kX K a).yld i H x H'->g x σ H' λσ2 H2=>tb { D with nx:=N,ct:=N,bk:=D.nx } σ2 H2):=by
 show#[λi m σ H=>m=xs.length - i/\i<=xs.length/\Pv i σ H,#[xs.length,by simp,Jd _,h0],?_];rintro i m σ H ⟨rfl,hi,p⟩;have q:=hl i σ H hi p;by_cases hlt:i<xs.length
 . refine .inr #[#[xs,xs[i],q,by simp [hlt]],Pv (i+1),λσ' H' p'=>#[xs.length - (i+1),∅,rfl,hlt,p'],λx H' y=>?_];let#[e,y]:=y;subst e;exact hs i x σ _ (y xs q) p
 . have e:i=xs.length:=by lia
   subst e;exact .inl #[#[xs,q,JG _],hd σ H p]
def yY {xs:List V} {D:cj} (Pv:Nat->St->Hp->Prop) (h0:Pv 0 σ H) (hl:∀i σ H,i<=xs.length->Pv i σ H->aJ K H a xs)
   (hs:∀i x σ H,xs[i]?=⇑x->Pv i σ H->g x σ H λσ2 H2=>tb { D with nx:=Pv (i+1),ct:=Pv (i+1),bk:=D.nx } σ2 H2) (hd:∀σ H,Pv xs.length σ H->D.nx σ H) :
   ∃W:Nat->Nat->St->Hp->Prop,(∃m,W 0 m σ H)/\∀i m σ H,W i m σ H ->
     ((kN K a).stop i H/\D.nx σ H)\/((kN K a).go i H/\∃N:St->Hp->Prop,(∀σ' H',N σ' H'->∃m',m'<m/\W (i+1) m' σ' H')/\∀x H',(kN K a).yld i H x H'->g x σ H' λσ2 H2=>tb { D with nx:=N,ct:=N,bk:=D.nx } σ2 H2):=by
 show#[λi m σ H=>m=xs.length - i/\i<=xs.length/\Pv i σ H,#[xs.length,by simp,Jd _,h0],?_];rintro i m σ H ⟨rfl,hi,p⟩;have q:=hl i σ H hi p;by_cases hlt:i<xs.length
 . refine .inr #[#[xs,xs[i],q,by simp [hlt]],Pv (i+1),λσ' H' p'=>#[xs.length - (i+1),∅,rfl,hlt,p'],λx H' y=>?_];let#[e,y]:=y;subst e;exact hs i x σ _ (y xs q) p
 . have e:i=xs.length:=by lia
   subst e;exact .inl #[#[xs,q,JG _],hd σ H p]
def fO {lo:Int} {n:Nat} {D:cj} (Pv:Nat->St->Hp->Prop) (h0:Pv 0 σ H)
   (hs:∀i σ H,i<n->Pv i σ H->g (.int (lo+i)) σ H λσ2 H2=>tb { D with nx:=Pv (i+1),ct:=Pv (i+1),bk:=D.nx } σ2 H2) (hd:∀σ H,Pv n σ H->D.nx σ H) :
   ∃W:Nat->Nat->St->Hp->Prop,(∃m,W 0 m σ H)/\∀i m σ H,W i m σ H ->
     ((jH lo n).stop i H/\D.nx σ H)\/((jH lo n).go i H/\∃N:St->Hp->Prop,(∀σ' H',N σ' H'->∃m',m'<m/\W (i+1) m' σ' H')/\∀x H',(jH lo n).yld i H x H'->g x σ H' λσ2 H2=>tb { D with nx:=N,ct:=N,bk:=D.nx } σ2 H2):=by
 show#[λi m σ H=>m=n - i/\i<=n/\Pv i σ H,#[n,by simp,Jd _,h0],?_];rintro i m σ H ⟨rfl,hi,p⟩;by_cases hlt:i<n
 . refine .inr #[hlt,Pv (i+1),λσ' H' p'=>#[n - (i+1),∅,rfl,hlt,p'],λx H' y=>?_];let#[e,y]:=y;subst e y;exact hs i σ _ hlt p
 . have e:i=n:=by lia
   subst e;exact .inl #[JG _,hd σ H p]
def GH {c:TT} {D:cj} (Pv:St->Hp->Prop) (μ:St->Hp->Nat) (h0:Pv σ H)
   (hs:∀σ H,Pv σ H->c σ H λb H1=>if b=true then tb { D with nx:=λσ' H'=>Pv σ' H'/\μ σ' H'<μ σ H,ct:=λσ' H'=>Pv σ' H'/\μ σ' H'<μ σ H,bk:=D.nx } σ H1 else D.nx σ H1)
   (mono:∀σ H Q Q',(∀b H1,Q b H1->Q' b H1)->c σ H Q->c σ H Q'):xV c tb D σ H:=by
 show#[λm σ H=>m=μ σ H/\Pv σ H,#[5,h0],?_];rintro m σ H ⟨rfl,p⟩;refine mono σ H _ _ (λb H1 q=>?_) (hs σ H p);cases b with
 | true=>show#[_,λσ' H' z43_=>by let#[p',l]:=z43_; show#[_,l,rfl,p'],q]
 | false=>exact q
noncomputable abbrev R2:=V->V->Hp->VK->Prop
abbrev bc (X:Cx) (f:MT->MT->Sem MT) (r:R2):Prop :=
 ∀(pins:List (MV×Obj)) (s:MU) (σ:St) (H:Hp) (x y:V) (v u:MT) (Q:VK),Inv X pins σ H s->af x v->af y u->r x y H Q ->
   wpAny 0x7 X.A (f v u) (EP X pins σ Q) X.xe s
abbrev tM (X:Cx) (f:MT->Sem MT) (r:V->Hp->VK->Prop):Prop :=
 ∀(pins:List (MV×Obj)) (s:MU) (σ:St) (H:Hp) (x:V) (v:MT) (Q:VK),Inv X pins σ H s->af x v->r x H Q ->
   wpAny 0x7 X.A (f v) (EP X pins σ Q) X.xe s
abbrev ay (X:Cx) (f:MT) (r:List V->Hp->VK->Prop):Prop :=
 ∀(pins:List (MV×Obj)) (s:MU) (σ:St) (H:Hp) (xs:List V) (us:List MT) (Q:VK),Inv X pins σ H s->aV xs us->r xs H Q ->
   wpAny 0x7 X.A (call f us) (EP X pins σ Q) X.xe s
abbrev B5 (X:Cx) (r:V->Hp->(Bool->Hp->Prop)->Prop):Prop :=
 ∀(pins:List (MV×Obj)) (s:MU) (σ:St) (H:Hp) (x:V) (v:MT) (Q:Bool->Hp->Prop),Inv X pins σ H s->af x v->r x H Q ->
   wpAny 0x7 X.A (truthy v) (TP X pins σ Q) X.xe s
abbrev jQ (r:R2) (ta tb:TE):TE:=λσ H Q=>ta σ H λx H1=>tb σ H1 λy H2=>r x y H2 Q
abbrev tUn (r:V->Hp->VK->Prop) (ta:TE):TE:=λσ H Q=>ta σ H λx H1=>r x H1 Q
abbrev rI (C:Int->Int->Prop) (g:Int->Int->V):R2:=λx y H Q=>∃i j,x=.int i/\y=.int j/\C i j/\Q (g i j) H
abbrev iI (g:Int->Int->V):R2:=λx y H Q=>∃i j,x=.int i/\y=.int j/\Q (g i j) H
abbrev rU (g:Int->V):V->Hp->VK->Prop:=λx H Q=>∃i,x=.int i/\Q (g i) H
section
variable {X:Cx} {a b c:Expr} {ta tb tc:TE} {pos:Pos}
def qc (ha:PE X a ta) (hb:PE X b tb) {R:V->V->Hp->Prop} (I:Inv X pins σ H s)
   (h:ta σ H λx H1=>tb σ H1 λy H2=>R x y H2) {Q:MT->MU->Prop} {f:MT->MT->Sem MT}
   (hf:∀v u s2 x y H2,Inv X pins σ H2 s2->af x v->af y u->R x y H2->wpAny 0x7 X.A (f v u) Q X.xe s2) :
   wpAny 0x7 X.A (eval a X.env) (λv s₁=>wpAny 0x7 X.A (eval b X.env) (λu s₂=>wpAny 0x7 X.A (f v u) Q X.xe s₂) X.xe s₁) X.xe s:=by
 refine aQ (ha pins s σ H _ I h) λv s1 z44_=>?_;let#[x,H1,I1,r1,q1]:=z44_;refine aQ (hb pins s1 σ H1 _ I1 q1) λu s2 z45_=>?_;let#[y,H2,I2,r2,q2]:=z45_;exact hf v u s2 x y H2 I2 r1 r2 q2
def aK {op:Operator} {r:R2} (ho:bc X (binaryOp op) r) (ha:PE X a ta) (hb:PE X b tb):PE X (.BinOp a op b pos) (jQ r ta tb):=by intro pins s σ H Q I h;exact wpAny_BinOp (qc ha hb I h λv u s2 x y H2 I2 rx ry q=>ho pins s2 σ H2 x y v u Q I2 rx ry q)
def iD {op:UnaryOp} {r:V->Hp->VK->Prop} (ho:tM X (unaryOp op) r) (ha:PE X a ta):PE X (.UnaryOp op a pos) (tUn r ta):=by intro pins s σ H Q I h;exact UnaryOp_ (aQ (ha pins s σ H _ I h) λv s1 z46_=>by let#[x,H1,I1,r1,q1]:=z46_; exact ho pins s1 σ H1 x v Q I1 r1 q1)
def j8 {f:MT->MT->Sem MT} {C:Int->Int->Prop} {g:Int->Int->Int}
   (rule:∀(i j:Int) (t u:Tok) (s:MU) (Q:MT->MU->Prop) (E:MT->MU->Prop),C i j->Q (.int (g i j) s.toks) { s with toks:=s.toks+1 }->wpAny 0x7 X.A (f (.int i t) (.int j u)) Q E s) :
   bc X f (rI C λi j=>.int (g i j)):=by
 intro pins s σ H x y v u Q I rx ry h;let#[i,j,rfl,rfl,hc,q]:=h;let#[t,rfl]:=rx;let#[t',rfl]:=ry;exact rule i j t t' s _ _ hc #[.int (g i j),H,I.tok _,#[5],q]
def su {f:MT->MT->Sem MT} {g:Int->Int->Int}
   (rule:∀(i j:Int) (t u:Tok) (s:MU) (Q:MT->MU->Prop) (E:MT->MU->Prop),Q (.int (g i j) s.toks) { s with toks:=s.toks+1 }->wpAny 0x7 X.A (f (.int i t) (.int j u)) Q E s) :
   bc X f (iI λi j=>.int (g i j)):=by
 intro pins s σ H x y v u Q I rx ry h;let#[i,j,rfl,rfl,q]:=h;let#[t,rfl]:=rx;let#[t',rfl]:=ry;exact rule i j t t' s _ _ #[.int (g i j),H,I.tok _,#[5],q]
def u8 {f:MT->MT->Sem MT} {g:Int->Int->Bool}
   (rule:∀(i j:Int) (t u:Tok) (s:MU) (Q:MT->MU->Prop) (E:MT->MU->Prop),Q (.bool (g i j)) s->wpAny 0x7 X.A (f (.int i t) (.int j u)) Q E s) :
   bc X f (iI λi j=>.bl (g i j)):=by
 intro pins s σ H x y v u Q I rx ry h;let#[i,j,rfl,rfl,q]:=h;let#[t,rfl]:=rx;let#[t',rfl]:=ry;exact rule i j t t' s _ _ #[.bl (g i j),H,I,rfl,q]
abbrev lq (i j:Int):Prop:=0<j/\j<1073741824
abbrev xA (i j:Int):Prop:=0<=j/\j<=1000000/\i.natAbs<2 ^ 64
abbrev sK (i j:Int):Prop:=(-(2 ^ 64)<i/\i<2 ^ 64)\/(-(2 ^ 64)<j/\j<2 ^ 64)
def sK.ok {i j:Int} (h:sK i j):IntMulOk i j:=by
 rcases h with⟨h1,h2⟩|⟨h1,h2⟩
 . exact .of_left (intBits_le_64 h1 h2)
 . exact .of_right (intBits_le_64 h1 h2)
def CZ (k:Nat):(0:Int)<=2 ^ k:=by rw[two_pow_cast];exact Int.natCast_nonneg _
def bL:bc X (binaryOp .Add) (iI λi j=>.int (i+j)):=su λ_ _ _ _ _ _ _ q=>add_int q
def fQ:bc X (binaryOp .Sub) (iI λi j=>.int (i - j)):=su λ_ _ _ _ _ _ _ q=>sub_int q
def gK:bc X (binaryOp .Mult) (rI sK λi j=>.int (i * j)):=j8 λ_ _ _ _ _ _ _ hc q=>mul_int q hc.ok
def dh:bc X (binaryOp .FloorDiv) (rI lq λi j=>.int (i / j)):=j8 λi j _ _ _ _ _ hc q=>by have h1:(0:Int)<j:=hc.1;have h2:j<1073741824:=hc.2;exact floordiv_int ∅ (by rw[LC i ∅]; exact q) (.inl (PyProof.noPylong_small ∅))
def c9:bc X (binaryOp .Mod) (rI (λ_ j=>0<j) λi j=>.int (i%j)):=j8 λi j _ _ _ _ _ hc q=>by have h1:(0:Int)<j:=hc;exact mod_int' ∅ (by rw[Int.fmod_eq_emod_of_nonneg i ∅]; exact q)
def pO:bc X (binaryOp .Pow) (rI xA λi j=>.int (i ^ j.toNat)):=j8 λ_ _ _ _ _ _ _ hc q=>pow_int_small hc.1 hc.2.1 hc.2.2 q
def IV:bc X (binaryOp .LShift) (rI xA λi j=>.int (i * 2 ^ j.toNat)):=j8 λ_ _ _ _ _ _ _ hc q=>lshift_int_small hc.1 hc.2.1 hc.2.2 q
def yO:bc X (binaryOp .RShift) (rI (λ_ j=>0<=j) λi j=>.int (i / 2 ^ j.toNat)):=j8 λi j _ _ _ _ _ hc q =>
 rshift_int hc (by rw[LC i (CZ _)]; exact q)
def yg:bc X (binaryOp .BitAnd) (iI λi j=>.int (Builtin.bitAnd i j)):=su λ_ _ _ _ _ _ _ q=>and_int q
def unI {f:MT->Sem MT} {g:Int->Int}
   (rule:∀(i:Int) (t:Tok) (s:MU) (Q:MT->MU->Prop) (E:MT->MU->Prop),Q (.int (g i) s.toks) { s with toks:=s.toks+1 }->wpAny 0x7 X.A (f (.int i t)) Q E s) :
   tM X f (rU λi=>.int (g i)):=by
 intro pins s σ H x v Q I rx h;let#[i,rfl,q]:=h;let#[t,rfl]:=rx;exact rule i t s _ _ #[.int (g i),H,I.tok _,#[5],q]
def iW:tM X (unaryOp .USub) (rU λi=>.int (-i)):=unI λ_ _ _ _ _ q=>neg_int q
end
abbrev wF:V->V->Bool
 | .non,.non=>true | .non,.int _=>true | .int _,.non=>true | .non,.bl _=>true | .bl _,.non=>true | .non,.str _=>true | .str _,.non=>true
 | .int _,.int _=>true | .bl _,.bl _=>true | .str _,.str _=>true | .byt _,.byt _=>true
 | .int _,.str _=>true | .str _,.int _=>true | .bl _,.str _=>true | .str _,.bl _=>true
 | _,_=>false
abbrev rEq:R2:=λx y H Q=>wF x y=true/\Q (.bl (decide (x=y))) H
abbrev rNe:R2:=λx y H Q=>wF x y=true/\Q (.bl (!decide (x=y))) H
def xb {i j:Int}:decide (V.int i=V.int j)=(i==j):=by rw[K5];simp
def vi {i j:Bool}:decide (V.bl i=V.bl j)=(i==j):=by rw[K5];simp
def uQ {i j:Str}:decide (V.str i=V.str j)=(i==j):=by rw[K5];simp
def vO {i j:Array UInt8}:decide (V.byt i=V.byt j)=(i.toList==j.toList):=by rw[K5];cases i;cases j;simp
section
variable {X:Cx} {a b c:Expr} {ta tb tc:TE} {pos:Pos}
def cO {Q:VK} {k k':Bool} (I:Inv X pins σ H s) (q:Q (.bl k) H) (e:k=k'):EP X pins σ Q (.bool k') s:=by subst e;show#[.bl k,H,I,rfl,q]
def bq:bc X (compareOp .Eq) rEq:=by
 intro pins s σ H x y v u Q I rx ry h;let#[hs,q]:=h;cases x with
 | non =>
   cases rx;cases y with
   | non=>cases ry; exact PySem.EqNone.eq_none_none (cO I q 0xB)
   | bl j=>cases ry; exact PySem.EqNone.eq_none_bool (cO I q 0xB)
   | int j=>let#[t',rfl]:=ry; exact PySem.EqNone.eq_none_int (cO I q 0xB)
   | str j=>let#[t',rfl]:=ry; exact PySem.EqNone.eq_none_str (cO I q 0xB)
   | _=>exact absurd (show false=true from hs) JP
 | bl i =>
   cases rx;cases y with
   | non=>cases ry; exact PySem.EqNone.eq_bool_none (cO I q 0xB)
   | bl j=>cases ry; exact eq_bool (cO I q vi)
   | str j=>let#[t',rfl]:=ry; exact PySem.EqMixed.eq_bool_str (cO I q 0xB)
   | _=>exact absurd (show false=true from hs) JP
 | int i =>
   let#[t,rfl]:=rx;cases y with
   | non=>cases ry; exact PySem.EqNone.eq_int_none (cO I q 0xB)
   | int j=>let#[t',rfl]:=ry; exact eq_int (cO I q xb)
   | str j=>let#[t',rfl]:=ry; exact PySem.EqMixed.eq_int_str (cO I q 0xB)
   | _=>exact absurd (show false=true from hs) JP
 | str i =>
   let#[t,rfl]:=rx;cases y with
   | non=>cases ry; exact PySem.EqNone.eq_str_none (cO I q 0xB)
   | bl j=>cases ry; exact PySem.EqMixed.eq_str_bool (cO I q 0xB)
   | int j=>let#[t',rfl]:=ry; exact PySem.EqMixed.eq_str_int (cO I q 0xB)
   | str j=>let#[t',rfl]:=ry; exact eq_str (cO I q uQ)
   | _=>exact absurd (show false=true from hs) JP
 | byt i =>
   let#[t,rfl]:=rx;cases y with
   | byt j=>let#[t',rfl]:=ry; exact PySem.W.eq_bytes (cO I q vO)
   | _=>exact absurd (show false=true from hs) JP
 | _=>cases y <;> exact absurd (show false=true from hs) JP
def rN:bc X (compareOp .NotEq) rNe:=by
 intro pins s σ H x y v u Q I rx ry h;let#[hs,q]:=h;cases x with
 | non =>
   cases rx;cases y with
   | non=>cases ry; exact PySem.EqNone.ne_none_none (cO I q 0xB)
   | bl j=>cases ry; exact PySem.EqNone.ne_none_bool (cO I q 0xB)
   | int j=>let#[t',rfl]:=ry; exact PySem.EqNone.ne_none_int (cO I q 0xB)
   | str j=>let#[t',rfl]:=ry; exact PySem.EqNone.ne_none_str (cO I q 0xB)
   | _=>exact absurd (show false=true from hs) JP
 | bl i =>
   cases rx;cases y with
   | non=>cases ry; exact PySem.EqNone.ne_bool_none (cO I q 0xB)
   | bl j=>cases ry; exact ne_bool (cO I q (Jj not vi))
   | str j=>let#[t',rfl]:=ry; exact PySem.EqMixed.ne_bool_str (cO I q 0xB)
   | _=>exact absurd (show false=true from hs) JP
 | int i =>
   let#[t,rfl]:=rx;cases y with
   | non=>cases ry; exact PySem.EqNone.ne_int_none (cO I q 0xB)
   | int j=>let#[t',rfl]:=ry; exact ne_int (cO I q (Jj not xb))
   | str j=>let#[t',rfl]:=ry; exact PySem.EqMixed.ne_int_str (cO I q 0xB)
   | _=>exact absurd (show false=true from hs) JP
 | str i =>
   let#[t,rfl]:=rx;cases y with
   | non=>cases ry; exact PySem.EqNone.ne_str_none (cO I q 0xB)
   | bl j=>cases ry; exact PySem.EqMixed.ne_str_bool (cO I q 0xB)
   | int j=>let#[t',rfl]:=ry; exact PySem.EqMixed.ne_str_int (cO I q 0xB)
   | str j=>let#[t',rfl]:=ry; exact ne_str (cO I q (Jj not uQ))
   | _=>exact absurd (show false=true from hs) JP
 | byt i =>
   let#[t,rfl]:=rx;cases y with
   | byt j=>let#[t',rfl]:=ry; exact PySem.W.ne_bytes (cO I q (Jj not vO))
   | _=>exact absurd (show false=true from hs) JP
 | _=>cases y <;> exact absurd (show false=true from hs) JP
def gz:bc X (compareOp .Lt) (iI λi j=>.bl (decide (i<j))):=u8 λ_ _ _ _ _ _ _ q=>lt_int q
def im:bc X (compareOp .Gt) (iI λi j=>.bl (decide (j<i))):=u8 λ_ _ _ _ _ _ _ q=>gt_int q
def qV:bc X (compareOp .GtE) (iI λi j=>.bl (decide (j<=i))):=u8 λ_ _ _ _ _ _ _ q=>ge_int q
def ac (b:Expr) (h:op≠.In:=by decide) (h2:op≠.NotIn:=by decide):behindInMarks op b=false:=by
 have e1:(op==CmpOp.In)=false:=by cases op <;> first|rfl|exact absurd rfl h
 have e2:(op==CmpOp.NotIn)=false:=by cases op <;> first|rfl|exact absurd rfl h2
 cases b <;> simp [behindInMarks,e1,e2]
def gg {r:R2} (ho:bc X (compareOp op) r) (ha:PE X a ta) (hb:PE X b tb) (hm:behindInMarks op b=false):PE X (.Compare a [op] [b] pos) (jQ r ta tb):=by intro pins s σ H Q I h;exact wpAny_Compare1 (qc ha hb I h λv u s2 x y H2 I2 rx ry q=>ho pins s2 σ H2 x y v u Q I2 rx ry q) hm
abbrev Be (t:TE):TT:=λσ H Q=>t σ H λx H'=>∃k,x=.bl k/\Q k H'
def kM {r:R2} (ho:bc X (compareOp op) r) (ha:PE X a ta) (hb:PE X b tb) (hm:behindInMarks op b=false):PT X (.Compare a [op] [b] pos) (Be (jQ r ta tb)):=by
 intro pins s σ H Q I h;refine Ld (aQ (ha pins s σ H _ I h) λv s1 ⟨x,H1,I1,r1,q1⟩=>aQ (hb pins s1 σ H1 _ I1 q1) λu s2 ⟨y,H2,I2,r2,q2⟩ =>
   aQ (ho pins s2 σ H2 x y v u _ I2 r1 r2 q2) λc s3 ⟨z,H3,I3,r3,k,e,q3⟩=>?_) hm
 subst e;cases r3;exact KS #[H3,I3,q3]
abbrev qX (K:MW) (x:V) (H:Hp) (k:Bool):Prop :=
 match x with
 | .non=>k=false
 | .bl b=>k=b
 | .int i=>k=(i != 0)
 | .str y=>y.length<=sizeLine/\k=((y.length:Int) != 0)
 | .byt y=>y.size<=sizeLine/\k=((y.size:Int) != 0)
 | .ref p=>(∃xs,aH K H p xs/\k=!xs.isEmpty)\/(∃xs,aJ K H p xs/\k=!xs.isEmpty)\/∃kvs,H p=⇑(.dK kvs)/\k=!kvs.isEmpty
 | _=>False
def BW {κ:Type} {kvs:List (κ×V)} {vs:List (κ×MT)} (r:KV kvs vs):(!vs.isEmpty)=!kvs.isEmpty:=by cases r <;> rfl
def xJ {xs:List V} {its:List MT} (r:aV xs its):(!its.toArray.isEmpty)=!xs.isEmpty:=by cases r <;> simp
def jf:(sizeLine:Nat)<2 ^ 63:=by rw[sizeLine_eq]; decide
def IS:B5 X (λx H Q=>∃k,qX X.K x H k/\Q k H):=by
 intro pins s σ H x v Q I rx h;let#[k,e,q]:=h;have hl:=jf;have hs:sizeLine=16777216:=sizeLine_eq;cases x with
 | non =>
   cases rx;have e':k=false:=e;subst e';exact truthy_none #[H,I,q]
 | bl b =>
   cases rx;have e':k=b:=e;subst e';exact KS #[H,I,q]
 | int i =>
   let#[t,rfl]:=rx;have e':k=(i != 0):=e;subst e';exact PySem.P.truthy_int #[H,I,q]
 | str y =>
   let#[t,rfl]:=rx;obtain⟨hy,e'⟩:y.length<=sizeLine/\k=((y.length:Int) != 0):=e;subst e';exact PySem.P.truthy_str ∅ #[H,I.tok _,q]
 | byt y =>
   let#[t,rfl]:=rx;obtain⟨hy,e'⟩:y.size<=sizeLine/\k=((y.size:Int) != 0):=e;subst e';exact PySem.W.truthy_bytes ∅ #[H,I.tok _,q]
 | ref p =>
   cases rx;have e':(∃xs,aH X.K H p xs/\k=!xs.isEmpty)\/(∃xs,aJ X.K H p xs/\k=!xs.isEmpty)\/∃kvs,H p=⇑(.dK kvs)/\k=!kvs.isEmpty:=e;rcases e' with⟨xs,hx,e'⟩|⟨xs,hx,e'⟩|⟨kvs,hx,e'⟩
   . subst e';let#[its,r,pl,hz]:=I.list hx;have hlen:=r.length;exact wpAny_truthy_list pl.isList (by simp only[JV]; lia) #[H,I.tok _,by rw[xJ r]; exact q]
   . subst e';let#[its,r,pl,hz]:=I.tuple hx;have hlen:=r.length;exact truthy_tuple pl (by simp only[JV]; lia) #[H,I.tok _,by rw[xJ r]; exact q]
   . subst e';obtain⟨hz,hS,vs,r,m⟩:kvs.length<=sizeLine/\(p==sysModules)=false/\∃vs,KV kvs vs/\s.heap.DictOf (ce X.prog X.w) p vs:=I.hok p _ hx;have hlen:kvs.length=vs.length:=Paired.length r;exact wpAny_truthy_dict hS m ∅ #[H,I.tok _,by rw[BW r]; exact q]
 | _=>exact(show False from e).elim
def DR (ha:PE X a ta) (he:∀whole,isTrue a X.env whole=(do let v <- whole; standAt a.pos; holding [v] (truthy v))) :
   PT X a (λσ H Q=>ta σ H λx H'=>∃k,qX X.K x H' k/\Q k H'):=by
 intro pins s σ H Q I h;exact isTrue_plain (aQ (ha pins s σ H _ I h) λv s1 z59_=>by let#[x,H1,I1,r1,q1]:=z59_; exact IS pins s1 σ H1 x v Q I1 r1 q1) (he _)
def gU:bc X (binaryOp .Add) (λx y H Q=>∃i j,x=.str i/\y=.str j/\i.length+j.length<=sizeLine/\Q (.str (i++j)) H):=by intro pins s σ H x y v u Q I rx ry h;let#[i,j,rfl,rfl,hz,q]:=h;let#[t,rfl]:=rx;let#[t',rfl]:=ry;exact add_str (λt' tk=>#[.str (i++j),H,I.tok _,#[5],q]) hz
def gu {x:V} (r:aV [x] us):∃u,us=[u]/\af x u:=by
 cases r with
 | cons r1 r2=>cases r2; show#[5,r1]
def ng {x y:V} (r:aV [x,y] us):∃u w',us=[u,w']/\af x u/\af y w':=by
 cases r with
 | cons r1 r2 =>
   cases r2 with
   | cons r3 r4=>cases r4; show#[9,r1,r3]
def DG (hc:X.calm=true):ay X (.builtin "min") (λxs H Q=>∃i j,xs=[.int i,.int j]/\Q (.int (if j<i then j else i)) H):=by
 intro pins s σ H xs us Q I r h;let#[i,j,rfl,q]:=h;obtain⟨u,w',rfl,⟨t,rfl⟩,⟨t',rfl⟩⟩:=ng r;refine min_two_ints (I.ok.hd hc) λh' tk k=>#[_,H,I.kept k,?_,q]
 by_cases hj:j<i
 . rw[JJ hj,JJ hj]; show#[5]
 . rw[JI hj,JI hj]; show#[5]
def DT:ay X (.type "int") (λxs H Q=>(∃i,xs=[.int i]/\Q (.int i) H)\/∃k,xs=[.bl k]/\Q (.int (if k then 1 else 0)) H):=by
 intro pins s σ H xs us Q I r h;rcases h with⟨i,rfl,q⟩|⟨k,rfl,q⟩
 . let#[u,rfl,t,rfl]:=gu r;exact call_int_int #[.int i,H,I,#[5],q]
 . let#[u,rfl,r1]:=gu r;cases r1;exact call_int_bool #[.int (if k then 1 else 0),H,I.tok _,#[5],q]
end
structure ObjM (h:Heap) (x dx C:Addr) (mA:Str->Option Value):Prop where
 obj:h.get? x=⇑(PySem.W.instObj C dx)
 ns:h.Ns1 dx mA
 ne:dx≠x
def Fj {dx:MV} {mA:Str->JM MT} (n:h.Ns1 dx mA):∃od,h.get? dx=⇑od/\∀name,PySem.W.lookIn name od=⇑(mA name):=by
 let#[o,es,ep,ho,hd,hk,_,hm]:=n;show#[o,ho,λname=>?_];have e:=hm name;unfold nsFind findBy at e;rw[<- Array.find?_toList] at e;unfold PySem.W.lookIn;rw[hd];dsimp only;split
 . rename_i y q
   rw[q] at e;exact Jj some e
 . rename_i q
   rw[q] at e;have a:es.toList.any (·.refKey)=false:=by rw[List.any_eq_false];intro y hy;let#[z,t,hkey]:=hk y (Array.mem_toList_iff.mp hy);simp [DictEntry.refKey,hkey]
   have a':¬ es.toList.any (·.refKey)=true:=by rw[a]; exact JP
   rw[JI a'];exact Jj some e
variable {C:MV}
def ObjM.look {x dx:MV}{mA:Str->JM MT} (I:ObjM h x dx C mA):∃od,PySem.W.InstAt h x (PySem.W.instObj C dx) C ⇑od/\∀name,PySem.W.lookIn name od=⇑(mA name) :=
 let ⟨od,ho,hl⟩:=Fj I.ns
 #[od,#[I.obj,7,ho],hl]
variable {pl:Sem Bool}
section
variable {prog:Program} {w:World} {A:Around} {E:MT->MU->Prop} {s:MU} {K:MW} {x dx C f:MV} {mA:Str->JM MT} {name:Str} {v:MT}
def Bf {expr:Bool} {Q:MT->MU->Prop} (X:K.In s.heap) (I:ObjM s.heap x dx C mA) (hg:PySem.W.plainGet K C name=true) (hh:PySem.W.hasDictIn K C=true)
   (ha:PySem.W.findIn K ↥C name=⇑none) (hv:mA name=⇑v) (hv':PySem.W.handedIn v=true) (h:Q v { s with toks:=s.toks+1 }) :
   wpAny 0x9 A (getAttr ↥x name expr) Q E s:=by
 let#[od,J,hl]:=I.look;exact PySem.W.get_value X J (PySem.W.plainGet_of hg).1 (PySem.W.findObj_own hh ha rfl (by rw[hl,hv])) hv' h
def BH {Q:MT×List MT->MU->Prop} (X:K.In s.heap) (I:ObjM s.heap x dx C mA) (hg:PySem.W.plainGet K C name=true)
   (hf:PySem.W.findIn K ↥C name=⇑⇑↥f) (ht:PySem.W.isFn K ↥f=true) (hv:mA name=none) (h:Q (↥f,[↥x]) s) :
   wpAny 0x9 A (getMethod ↥x name pl) Q E s:=by
 let#[od,J,hl]:=I.look;exact PySem.W.method_fn X J (PySem.W.plainGet_of hg).1 (PySem.W.plainGet_of hg).2 hf (beq_iff_eq.mp ht) (by show(PySem.W.lookIn name od).map (·.isSome)=⇑false; rw[hl,hv]; rfl) h
def FR {ns:List Str} {Q:Unit->MU->Prop} (X:K.In s.heap) (I:ObjM s.heap x dx C mA)
   (hs:PySem.W.findIn K ↥C "__setattr__"=⇑⇑(.builtin "object.__setattr__")) (hp:PySem.W.plainOver K C=true) (ht:PySem.W.takerIn K C name=⇑none) (hh:PySem.W.hasDictIn K C=true)
   (hw:PySem.Within mA ns) (hsz:ns.length<=sizeLine)
   (h:∀h',ObjM h' x dx C (λy=>if y=name then ⇑v else mA y)->Heap.SameBut dx s.heap h'->Q () { s with heap:=h',toks:=s.toks+2 }) :
   wpAny 0x9 A (setAttr ↥x name v) Q E s:=by
 let#[od,J,hl]:=I.look;refine PySem.W.set_plain X J hs (PySem.W.osa_open (s:={ s with toks:=s.toks+1 }) (r:=none) X J hp ht λb=>?_);let#[cd,hc,hd']:=PySem.W.any_some hh;have hx:s.heap.get? x=some ⟨↥C,⇑dx,.plain,(List.toArray [])⟩:=I.obj;refine J8 (JO (J8 (J8 (wpAny_loadPart hx (J8 (PySem.W.Looks.here (s:={ s with toks:=s.toks+1 }) (PySem.W.looks_clsIn X hc) ?_))))));rw[hd'];refine JO (a:=⇑dx) (J8 (JO (J8 ?_)));refine wpAny_nsSet1 (s:={ s with toks:=s.toks+1 }) I.ns λh' hn2 hs2=>?_;let#[oD,esD,epD,hoD,hdD,hcD]:=hn2.count (PySem.Within.cons name v hw);refine J8 (wpAny_lookBehind hoD (by rw[hdD]; exact pastItsLine_dict (Jo hcD (by rw[JX]; lia))) ?_);exact JO (h _ #[(hs2.2 _ (Ne.symm I.ne))\I.obj,hn2,I.ne] hs2)
def BU {R:Result->MU->Prop} {vs:List MT} {kw:List (Str×MT)} (X:K.In s.heap) (hm:PySem.W.makesIn K C=true)
   (hi:PySem.W.findIn K ↥C "__init__"=⇑⇑↥f) (hf:PySem.W.typeIn K ↥f=⇑(.type "function"))
   (h:codeAny 0x9 (A.under (.builtin "type.__call__" #[↥C::vs,kw])) (.call ↥f #[↥(s.heap.objs.size+1)::vs,kw]) (PySem.W.InitBack (s.heap.objs.size+1) R)
     { s with heap:=(s.heap.push PySem.W.emptyDict).push (PySem.W.instObj C s.heap.objs.size) }) :
   codeAny 0x9 A (.call ↥C #[vs,kw]) R s:=by
 let#[hh,g,d,t,os]:=s;exact PySem.W.make_core (PySem.W.makes_of X hm) (PySem.W.looks_findIn X hi) (λself=>PySem.W.bind_fn X self hf) (.inl rfl) h
end
abbrev cN (f:Str) (v:V):List (Str×V)->List (Str×V)
 | []=>[(f,v)]
 | (g,x)::r=>if g=f then(g,v)::r else(g,x)::cN f v r
def cu (f g:Str) (v:V):∀fs:List (Str×V),(cN f v fs).lookup g=if g=f then ⇑v else fs.lookup g
 | []=>by
   show List.lookup g [(f,v)]=_;by_cases h:g=f
   . have hb:(g==f)=true:=beq_iff_eq.mpr h;simp only[List.lookup,hb,JJ h]
   . have hb:(g==f)=false:=beq_eq_false_iff_ne.mpr h;simp only[List.lookup,hb,JI h]
 | (k,x)::r=>by
   have ih:=cu f g v r;rw[show cN f v ((k,x)::r)=(if k=f then(k,v)::r else(k,x)::cN f v r) from rfl];by_cases hk:k=f
   . rw[JJ hk];by_cases h:g=k
     . have hb:(g==k)=true:=beq_iff_eq.mpr h;simp only[List.lookup,hb,JJ (h\hk)]
     . have hb:(g==k)=false:=beq_eq_false_iff_ne.mpr h;simp only[List.lookup,hb,JI (λe:g=f=>h (e\hk.symm))]
   . rw[JI hk];by_cases h:g=k
     . have hb:(g==k)=true:=beq_iff_eq.mpr h;simp only[List.lookup,hb,JI (λe:g=f=>hk (h.symm\e))]
     . have hb:(g==k)=false:=beq_eq_false_iff_ne.mpr h;simp only[List.lookup,hb];exact ih
def qo (f:Str) (v:V):∀fs:List (Str×V),f∈(cN f v fs).map (·.1)/\∀g,g∈fs.map (·.1)->g∈(cN f v fs).map (·.1)
 | []=>#[by simp [cN],λg h=>by simp at h]
 | (k,x)::r=>by
   let#[i1,i2]:=qo f v r;rw[show cN f v ((k,x)::r)=(if k=f then(k,v)::r else(k,x)::cN f v r) from rfl];by_cases hk:k=f
   . rw[JJ hk];subst hk;show#[by simp,λg h=>by simpa using h]
   . rw[JI hk];show#[?_,λg h=>?_]
     . rw[Jv];exact Jc _ i1
     . rw[Jv] at h ⊢;rcases JS.mp h with e|e
       . exact JS.mpr (.inl e)
       . exact Jc _ (i2 g e)
def rO (f:Str) (v:V):∀fs:List (Str×V),(cN f v fs).length<=fs.length+1
 | []=>by simp [cN]
 | (k,x)::r=>by
   have ih:=rO f v r;rw[show cN f v ((k,x)::r)=(if k=f then(k,v)::r else(k,x)::cN f v r) from rfl];by_cases hk:k=f
   . rw[JJ hk,JX,JX]; lia
   . rw[JI hk,JX,JX]; lia
def eX.some_of {o:JM MT} (r:eX ⇑v o):∃u,o=⇑u/\af v u:=by
 cases o with
 | none=>exact(show False from r).elim
 | some u=>show#[u,rfl,r]
def eX.none_of {o:JM MT} (r:eX none o):o=none:=by
 cases o with
 | none=>rfl
 | some u=>exact(show False from r).elim
def GY (r:af v u):PySem.W.handedIn u=true:=by
 cases v with
 | non=>cases (show u=Value.none from r); rfl
 | bl b=>cases (show u=Value.bool b from r); rfl
 | int i=>let#[t,e]:=(show ∃t,u=Value.int i t from r); cases e; rfl
 | str x=>let#[t,e]:=(show ∃t,u=Value.str x t from r); cases e; rfl
 | byt b=>let#[t,e]:=(show ∃t,u=Value.bytes b t from r); cases e; rfl
 | flt b=>let#[t,e]:=(show ∃t,u=Value.float b t from r); cases e; rfl
 | ref a=>cases (show u=Value.ref a from r); rfl
 | ty n=>cases (show u=Value.type n from r); rfl
section
variable {P:Program} {w:World} {H H':Hp} {h h':Heap} {a C dx:MV} {fs fs':List (Str×V)}
def oK (hok:bU P w H h) (e:H a=⇑(.ins C dx fs)):∃mA,ObjM h a dx C mA/\(∀f,eX (fs.lookup f) (mA f))/\PySem.Within mA (fs.map (·.1))/\fs.length<=1000/\H dx=⇑(.own a):=by
 let#[d,z,ne,ob,mA,n,r,q]:=(show cM P w H h a (.ins C dx fs) from hok a _ e)
 show#[mA,#[ob,n,ne],r,q,z,d]
end
structure Cls (K:W.Frag) (C:Addr):Prop where
 pg:PySem.W.plainGet K C Str.empty=true
 hd:PySem.W.hasDictIn K C=true
 po:PySem.W.plainOver K C=true
 sa:PySem.W.findIn K ↥C "__setattr__"=⇑⇑(.builtin "object.__setattr__")
def Cls.get {K:MW} {C:MV} (c:Cls K C) (f:Str):PySem.W.plainGet K C f=true:=c.pg
abbrev dj (K:MW) (C:MV) (f:Str):Prop:=PySem.W.findIn K ↥C f=⇑none
def dj.taker {f:Str} (n:dj K C f):PySem.W.takerIn K C f=⇑none:=by unfold PySem.W.takerIn;rw[show PySem.W.findIn K ↥C f=⇑none from n];rfl
structure Meth (K:W.Frag) (C:Addr) (m:Str) (f:Addr):Prop where
 at_:PySem.W.findIn K ↥C m=⇑⇑↥f
 fn:PySem.W.isFn K ↥f=true
 kp:PySem.W.keepIn K ↥f=true
section
variable {X:Cx} {pins:List (MV×Obj)} {σ:St} {H:Hp} {s:MU} {a C dx:MV} {fs:List (Str×V)} {f:Str} {v:V} {A:Around} {E:MT->MU->Prop}
def xD {b:Bool} {Q:MT->MU->Prop} (I:Inv X pins σ H s) (e:H a=⇑(.ins C dx fs)) (c:Cls X.K C) (n:dj X.K C f) (l:fs.lookup f=⇑v)
   (h:∀u s',Inv X pins σ H s'->af v u->Q u s'):wpAny 0x7 A (getAttr ↥a f b) Q E s:=by
 let#[mA,O,r,_,_,_]:=oK I.hok e;let#[u,hu,ru]:=eX.some_of (v:=v) (o:=mA f) (by rw[<- l]; exact r f);exact Bf I.kIn O (c.get f) c.hd n hu (GY ru) (h u _ (I.tok _) ru)
def x9 {m:Str} {g:MV} {Q:MT×List MT->MU->Prop} (I:Inv X pins σ H s) (e:H a=⇑(.ins C dx fs)) (c:Cls X.K C) (k:Meth X.K C m g) (l:fs.lookup m=none)
   (h:Q (↥g,[↥a]) s):wpAny 0x7 A (getMethod ↥a m pl) Q E s:=by
 let#[mA,O,r,_,_,_]:=oK I.hok e;have hn:mA m=none:=eX.none_of (by rw[<- l]; exact r m);exact BH I.kIn O (c.get m) k.at_ k.fn hn h
def ut {y:V} {Q:Unit->MU->Prop} (I:Inv X pins σ H s) (e:H a=⇑(.ins C dx fs)) (c:Cls X.K C) (n:dj X.K C f) (hl:fs.length<1000) (ry:af y u)
   (h:∀s',Inv X pins σ (upd H a (.ins C dx (cN f y fs))) s'->Q () s'):wpAny 0x7 A (setAttr ↥a f u) Q E s:=by
 let#[mA,O,r,wi,_,ho]:=oK I.hok e;have hz:(fs.map (·.1)).length<=sizeLine:=by rw[J7,sizeLine_eq]; lia
 refine FR I.kIn O c.sa c.po n.taker c.hd wi hz λh' O' sb=>h _ ?_;have hd:∃o,h'.get? dx=⇑o:=by let#[o,_,_,e',_]:=O'.ns; show#[o,e']
 refine I.write (x:=a) (e:=dx) (by rw[e]; exact True.intro) (.inr ho) (λb q hb z=>(sb.2 b hb)\z) hd ?_;show#[by rw[aR O.ne]; exact ho,?_,O.ne,O'.obj,_,O'.ns,λg=>?_,λg hg=>?_]
 . have:=rO f y fs; lia
 . show eX ((cN f y fs).lookup g) (if g=f then ⇑u else mA g);rw[cu];by_cases q:g=f
   . rw[JJ q,JJ q]; exact ry
   . rw[JI q,JI q]; exact r g
 . by_cases q:g=f
   . rw[q]; exact(qo f y fs).1
   . refine(qo f y fs).2 g (wi g λz=>hg ?_);show(if g=f then ⇑u else mA g)=none;rw[JI q]; exact z
def Inv.made (I:Inv X pins σ H s):Inv X pins σ (upd (upd H s.heap.objs.size (.own (s.heap.objs.size+1))) (s.heap.objs.size+1) (.ins C s.heap.objs.size []))
   { s with heap:=(s.heap.push PySem.W.emptyDict).push (PySem.W.instObj C s.heap.objs.size) }:=by
 have e1:(s.heap.push PySem.W.emptyDict).get? s.heap.objs.size=⇑PySem.W.emptyDict:=Ja s.heap rfl;have e2:((s.heap.push PySem.W.emptyDict).push (PySem.W.instObj C s.heap.objs.size)).get? (s.heap.objs.size+1)=⇑(PySem.W.instObj C s.heap.objs.size):=by have:=Ja (s.heap.push PySem.W.emptyDict) (o:=PySem.W.instObj C s.heap.objs.size) rfl;rwa [KJ] at this
 have e3:(s.heap.push PySem.W.emptyDict).Ns s.heap.objs.size (λ_=>none):=#[PySem.W.emptyDict,(List.toArray []),_,e1,rfl,(λe he=>absurd he 0xB),λ_=>rfl]
 have I1:=I.laid (a:=s.heap.objs.size) (o:=.own (s.heap.objs.size+1)) (h':=s.heap.push PySem.W.emptyDict) (t':=s.toks) (λb u q=>JD _ q) (JG _) #[_,e1];refine I1.laid (a:=s.heap.objs.size+1) (o:=.ins C s.heap.objs.size []) (t':=s.toks) (λb u q=>JD _ q) (Nat.le_of_eq (KJ _ _)) ?_;have ne:s.heap.objs.size≠s.heap.objs.size+1:=Jn (KG _);show#[by rw[aR ne,aF],Jd _,ne,e2,λ_=>none,(Heap.Ns1.of_empty e3).at λo q=>JD _ q,λ_=>True.intro,λy hy=>absurd rfl hy]
def HD {prog:Program} {env:Env} {e:Expr} {f:Str} {Q:MT->MU->Prop} (hb:attributeBase e f env (eval e env)=eval e env)
   (h:wpAny 0x9 A (eval e env) (λo s₁=>wpAny 0x9 A (getAttr o f true) Q E s₁) E s):wpAny 0x9 A (eval (.Attribute e f pos) env) Q E s :=
 Attribute_any_ h (by rw[arm_eval_Attribute,hb])
end
abbrev GG (K:MW) (ta:TE) (f:Str):TE:=λσ H Q=>ta σ H λx H1=>∃a C dx fs v,x=↥a/\H1 a=⇑(.ins C dx fs)/\Cls K C/\dj K C f/\fs.lookup f=⇑v/\Q v H1
abbrev Hw (K:MW) (ta tv:TE) (f:Str):TS:=λD σ H=>tv σ H λy H1=>ta σ H1 λx H2=>∃a C dx fs,x=↥a/\H2 a=⇑(.ins C dx fs)/\Cls K C/\dj K C f/\fs.length<1000 /\
 D.nx σ (upd H2 a (.ins C dx (cN f y fs)))
abbrev G9 (X:Cx) (op:Operator) (rd:V->V->Hp->VK->Prop):Prop :=
 ∀(pins:List (MV×Obj)) (s:MU) (σ:St) (H:Hp) (x y:V) (u v:MT) (Q:VK),Inv X pins σ H s->af x u->af y v->rd x y H Q->wpAny 0x7 X.A (inplaceOp op u v) (EP X pins σ Q) X.xe s
abbrev Bo (K:MW) (ta tv:TE) (rd:V->V->Hp->VK->Prop) (f:Str):TS:=λD σ H=>ta σ H λx H1=>∃a C dx fs v,x=↥a/\H1 a=⇑(.ins C dx fs)/\Cls K C/\dj K C f/\fs.lookup f=⇑v /\
 tv σ H1 λy H2=>rd v y H2 λz H3=>∃dx' fs',H3 a=⇑(.ins C dx' fs')/\fs'.length<1000/\D.nx σ (upd H3 a (.ins C dx' (cN f z fs')))
section
variable {X:Cx} {o e value:Expr} {f:Str} {pos pos' tpos:Pos} {ta tv:TE}
def da (he:PE X e ta) (hb:attributeBase e f X.env (eval e X.env)=eval e X.env):PE X (.Attribute e f pos) (GG X.K ta f):=by intro pins s σ H Q I h;refine HD hb (aQ (he pins s σ H _ I h) λu s1 z60_=>?_);let#[x,H1,I1,rx,a,C,dx,fs,v,ex,ea,c,n,l,q]:=z60_;subst ex;obtain rfl:u=Value.ref a:=rx;exact xD I1 ea c n l λu' s2 I2 ru=>#[v,H1,I2,ru,q]
def gQ (ha:PE X o ta) (hv:PE X value tv) (hs:swapsWith value ⇑(.Attribute o f pos') pos.line X.env=pure false):PS X (.Assign [.Attribute o f pos'] value pos) (Hw X.K ta tv f):=by intro pins s σ H D I h;refine plainObj_wpAny_Assign_Attribute (aQ (hv pins s σ H _ I h) λu s1 z62_=>z62_.e λy H1 I1 ry q=>aQ (ha pins s1 σ H1 _ I1 q) λov s2 z63_=>?_) hs;let#[x,H2,I2,rx,a,C,dx,fs,ex,ea,c,n,l,q2]:=z63_;subst ex;obtain rfl:ov=Value.ref a:=rx;exact ut I2 ea c n l ry λs3 I3=>#[σ,_,I3,q2]
def Ce {op:Operator} {rd:V->V->Hp->VK->Prop} (ha:PE X o ta) (hv:PE X value tv) (hop:G9 X op rd):PS X (.AugAssign (.Attribute o f tpos) op value pos) (Bo X.K ta tv rd f):=by intro pins s σ H D I h;refine wpAny_AugAssign_AttributeAny (aQ (ha pins s σ H _ I h) λov s1 z64_=>?_);let#[x,H1,I1,rx,a,C,dx,fs,v,ex,ea,c,n,l,q]:=z64_;subst ex;obtain rfl:ov=Value.ref a:=rx;refine xD I1 ea c n l λu s2 I2 ru=>aQ (hv pins s2 σ H1 _ I2 q) λw3 s3 z65_=>z65_.e λy H2 I3 ry q3=>aQ (hop pins s3 σ H2 v y u w3 _ I3 ru ry q3) λw4 s4 z66_=>?_;let#[z,H3,I4,rz,dx',fs',ea',l',q4]:=z66_;exact ut I4 ea' c n l' rz λs5 I5=>#[σ,_,I5,q4]
end
section
variable {X:Cx} {pins:List (MV×Obj)} {σ:St} {H:Hp} {s:MU} {A:Around} {E:MT->MU->Prop} {Q:MT->MU->Prop} {c:MT} {b:Bool}
inductive TyOf (K:W.Frag) (H:Hp):V->Value->Prop where
 | non:TyOf K H .non (.type "NoneType")
 | bl (x:Bool):TyOf K H (.bl x) (.type "bool")
 | int (i:Int):TyOf K H (.int i) (.type "int")
 | str (x:Str):TyOf K H (.str x) (.type "str")
 | flt (x:UInt64):TyOf K H (.flt x) (.type "float")
 | lst {a:Addr} {xs:List V} (e:H a=⇑(.lst xs)):TyOf K H ↥a (.type "list")
 | frz {a:Addr} {o:Obj} {xs:List V} (e:H a=⇑(.frz o (.lst xs))):TyOf K H ↥a (.type "list")
 | tup {a:Addr} {xs:List V} (e:H a=⇑(.tup xs)):TyOf K H ↥a (.type "tuple")
 | dK {a:Addr} {kvs:List (aP×V)} (e:H a=⇑(.dK kvs)):TyOf K H ↥a (.type "dict")
 | dT {a:Addr} {kvs:List (List aP×V)} (e:H a=⇑(.dT kvs)):TyOf K H ↥a (.type "dict")
 | ins {a C dx:Addr} {fs:List (Str×V)} (e:H a=⇑(.ins C dx fs)) (cl:Cls K C) (ha:PySem.W.findIn K ↥C "__class__"=⇑⇑(.builtin "object.__class__"))
     (hn:PySem.W.specialIn K (.builtin "object.__class__") "__get__"=⇑⇑(.builtin "getset_descriptor.__get__")) (htk:PySem.W.takesIn K (.builtin "object.__class__")=⇑true)
     (hm:PySem.W.mroIn K C (.type "object")=⇑true):TyOf K H ↥a ↥C
def z7 {x:V} {t:MT}(I:Inv X pins σ H s) (rx:af x u) (ty:TyOf X.K H x t) (e:PySem.W.kitOne X.K t c=⇑b) (h:∀tk,Q (.bool b) { s with toks:=tk }) :
   wpAny 0x7 A (call (.builtin "isinstance") [u,c]) Q E s:=by
 cases ty with
 | non=>cases (show u=Value.none from rx); exact PySem.W.kia_one PySem.W.kitx_none I.kIn True.intro e (λz=>nomatch z) h
 | bl y=>cases (show u=Value.bool y from rx); exact PySem.W.kia_one PySem.W.kitx_bool I.kIn True.intro e (λz=>nomatch z) h
 | int i=>let#[t,q]:=(show ∃t,u=Value.int i t from rx); cases q; exact PySem.W.kia_one PySem.W.kitx_int I.kIn True.intro e (λz=>nomatch z) h
 | str y=>let#[t,q]:=(show ∃t,u=Value.str y t from rx); cases q; exact PySem.W.kia_one PySem.W.kitx_str I.kIn True.intro e (λz=>nomatch z) h
 | flt y=>let#[t,q]:=(show ∃t,u=Value.float y t from rx); cases q; exact PySem.W.kia_one PySem.W.kitx_float I.kIn True.intro e (λz=>nomatch z) h
 | @lst a xs ea =>
   cases (show u=Value.ref a from rx);let#[_,_,n,_,h1]:=(show cM X.prog X.w H s.heap a (.lst xs) from I.hok a _ ea)
   exact PySem.W.kia_one PySem.W.kitx_list I.kIn #[_,h1,rfl] e (λz=>nomatch z) h
 | @frz a ob xs ea =>
   cases (show u=Value.ref a from rx);let#[_,_,_,n,_,h1]:=(show cM X.prog X.w H s.heap a (.frz ob (.lst xs)) from I.hok a _ ea)
   exact PySem.W.kia_one PySem.W.kitx_list I.kIn #[_,h1,rfl] e (λz=>nomatch z) h
 | @tup a xs ea =>
   cases (show u=Value.ref a from rx);let#[_,_,_,p]:=(show cM X.prog X.w H s.heap a (.tup xs) from I.hok a _ ea)
   let#[o,h1,h2,_]:=p;exact PySem.W.kia_one PySem.W.kitx_tuple I.kIn #[o,h1,h2] e (λz=>nomatch z) h
 | @dK a kvs ea =>
   cases (show u=Value.ref a from rx);let#[_,_,vs,_,p]:=(show cM X.prog X.w H s.heap a (.dK kvs) from I.hok a _ ea)
   let#[o,es,ep,h1,h2,_]:=p;exact PySem.W.kia_one PySem.W.kitx_dict I.kIn #[o,h1,h2.1] e (λz=>nomatch z) h
 | @dT a kvs ea =>
   cases (show u=Value.ref a from rx);let#[_,_,xs,_,o,es,ep,h1,h2,_]:=(show cM X.prog X.w H s.heap a (.dT kvs) from I.hok a _ ea)
   exact PySem.W.kia_one PySem.W.kitx_dict I.kIn #[o,h1,h2.1] e (λz=>nomatch z) h
 | @ins a C dx fs ea cl ha hn htk hm =>
   cases (show u=Value.ref a from rx);let#[mA,O,_]:=oK I.hok ea;let#[od,J,_]:=O.look;exact PySem.W.kia_one (PySem.W.kitx_own (cl.get _) cl.hd ha hn htk hm) I.kIn J e (λz=>nomatch z) h
end
structure Room (k:Nat) (A:Around):Prop where
 hd:A.handled=none
 dp:A.depth+3 * k+5<recursionLimit
 un:A.units+16 * k+200<cLine
def Room.mono {j k:Nat} (r:Room k A) (h:j<=k):Room j A:=#[r.hd,by have:=r.dp; lia,by have:=r.un; lia]
def Room.deeper {k:Nat} (r:Room (k+1) A) (env:Env):Room k (A.deeper env) :=
 #[r.hd,by have:=r.dp; show A.depth+1+3 * k+5<_; lia,by have:=r.un; show A.units+3+16 * k+200<_; lia]
def CL {kw:List (Str×MT)}:(A.under (.builtin "type.__call__" #[↥C::us,kw])).depth=A.depth+1:=by
 first|rfl|simp [Around.under,Code.weight,Code.isCreation,Code.isGuard,Code.isCaller,Code.frames,Code.isFrame,guardIds]
def Cu {kw:List (Str×MT)}:(A.under (.builtin "type.__call__" #[↥C::us,kw])).units=A.units+1:=by
 first|rfl|simp [Around.under,Code.cUnits,Code.frames,Code.isFrame]
def Room.make {k:Nat} (r:Room (k+1) A) (C:MV) (us:List MT) (kw:List (Str×MT)):Room k (A.under (.builtin "type.__call__" #[↥C::us,kw])) :=
 #[r.hd,by have:=r.dp; rw[CL]; lia,by have:=r.un; rw[Cu]; lia]
def Room.depth {k:Nat} (r:Room k A):A.depth<recursionLimit:=by have:=r.dp; lia
def Room.units {k:Nat} (r:Room k A):A.units+64<cLine:=by have:=r.un; lia
abbrev xG:TA:=λ_ H Q=>Q [] H
abbrev yM (ta:TE) (tr:TA):TA:=λσ H Q=>ta σ H λx H1=>tr σ H1 λxs H2=>Q (x::xs) H2
section
variable {X:Cx} {e:Expr} {es:List Expr} {te:TE} {t:TA} {pos:Pos}
def aD:PA X [] xG:=λ_ _ _ _ H Q I h=>Calls.spliced_nil #[[],H,I,.nil,h]
def ae (ha:PE X e te) (hr:PA X es t) (hs:starEach (e::es) X.env=(false,eval e X.env)::starEach es X.env:=by rfl):PA X (e::es) (yM te t):=by intro pos pins s σ H Q I h;rw[hs];show wpAny _ _ (spliced ((false,eval e X.env)::backTo pos (starEach es X.env))) _ _ s;refine Calls.spliced_cons (aQ (ha pins s σ H _ I h) λu s1 z68_=>?_);let#[x,H1,I1,r1,q1]:=z68_;exact aQ (hr pos pins s1 σ H1 _ I1 q1) λus s2 z69_=>by let#[xs,H2,I2,r2,q2]:=z69_; show#[x::xs,H2,I2,.cons r1 r2,q2]
def aC {e:Expr} {es:List Expr} {t:TA} (ha:PE X e te) (hr:PA X es t) (hs:starEach (e::es) X.env=(false,eval e X.env)::starEach es X.env):PA X (e::es) (yM te t):=ae ha hr hs
abbrev vo (t:TA):TE:=λσ H Q=>t σ H λxs H1=>xs.length<=sizeLine/\∀p,H1 p=none->Q ↥p (upd H1 p (.tup xs))
abbrev C7 (t:TA):TE:=λσ H Q=>t σ H λxs H1=>xs.length<=sizeLine/\∀p,H1 p=none->Q ↥p (upd H1 p (.lst xs))
def aw {x1} (h:PA X es t):PE X (.Tuple es x1 pos) (vo t):=by intro pins s σ H Q I hq;refine wpAny_Tuple_spliced (aQ (h pos pins s σ H _ I hq) λus s1 ⟨xs,H1,I1,r,z,q⟩=>#[by rw[<- r.length]; exact z,?_]);have hf:H1 s1.heap.objs.size=none:=I1.hok.fresh (JG _);show#[↥s1.heap.objs.size,upd H1 s1.heap.objs.size (.tup xs),I1.laid (t':=s1.toks) (λb u e=>JD _ e) (JG _) ?_,rfl,q _ hf];show#[z,us,r,#[_,Ja _ rfl,13]]
def bD (h:PA X es t):PE X (.List es pos) (C7 t):=by intro pins s σ H Q I hq;refine wpAny_List_spliced (aQ (h pos pins s σ H _ I hq) λus s1 ⟨xs,H1,I1,r,z,q⟩=>#[by rw[<- r.length]; exact z,?_]);have hf:H1 s1.heap.objs.size=none:=I1.hok.fresh (JG _);show#[↥s1.heap.objs.size,upd H1 s1.heap.objs.size (.lst xs),I1.laid (t':=s1.toks) (λb u e=>JD _ e) (JG _) ?_,rfl,q _ hf];show#[z,us,(0),r,Ja _ rfl]
end
noncomputable abbrev Sp:=List V->Hp->VK->XK->Prop
noncomputable abbrev g7:=List Env->Hp->MU->XK->MT->MU->Prop
structure Env0 (P:Program) (w:World) (K:W.Frag) (mg:Str->Option Value) (base:Heap) (A:Around) (outer:List Env) (s:Shared) (H:Hp):Prop where
 frames:A.frames=⇑outer
 mod:Mod K mg base
 bs:∀b o,base.get? b=⇑o->s.heap.get? b=⇑o/\H b=none
 bsz:base.objs.size<=s.heap.objs.size
 funs:s.heap.FunFrames base outer
 frf:∀b∈cJ outer,H b=none
 hok:bU P w H s.heap
 bare:AllBare s.gens
abbrev CE (outer:List Env) (P:Program) (w:World) (H:Hp) (s:MU) (Q:VK) (u:MT) (s':MU):Prop :=
 ∃v H',s'.os=s.os/\AllBare s'.gens/\Un (cJ outer) [] H H' s.heap s'.heap/\bU P w H' s'.heap/\af v u/\Q v H'
abbrev CR (CX:g7) (outer:List Env) (P:Program) (w:World) (H:Hp) (s:MU) (Q:VK) (E:XK) (r:Result) (s':MU):Prop :=
 match r with
 | .ok (.ret u)=>CE outer P w H s Q u s'
 | .ok _=>False
 | .error e=>CX outer H s E e s'
structure FnOk (P:Program) (w:World) (K:W.Frag) (mg:Str->Option Value) (base:Heap) (CX:g7) (k:Nat) (f:Addr) (fd:FuncData) (ps:List Str) (sp:Sp):Prop where
 len:∀vs H Q E,sp vs H Q E->vs.length=ps.length
 run:∀(A:Around) (outer:List Env) (s:Shared) (H:Hp) (args:Args) (us:List Value) (vs:List V) (Q:VK) (E:XK),Room k A->Env0 P w K mg base A outer s H->BindsTo s fd args (ps.zip us)->aV vs us->sp vs H Q E ->
   codeAny (model P w) A (.call ↥f args) (CR CX outer P w H s Q E) s
variable {base:Heap}
def Env0.make {mg:Str->JM MT} {outer:List Env} (e:Env0 P w K mg base A outer s H) (C:MV) (us:List MT) (kw:List (Str×MT)) :
   Env0 P w K mg base (A.under (.builtin "type.__call__" #[↥C::us,kw])) outer s H:=#[by first|exact e.frames|(simpa [Around.under,Code.envs,Code.isFrame,pushEnvs] using e.frames),e.mod,e.bs,e.bsz,e.funs,e.frf,e.hok,e.bare]
section
variable {X:Cx} {pins:List (MV×Obj)} {σ:St} {H:Hp} {s s':MU}
def Inv.env0 (I:Inv X pins σ H s):Env0 X.prog X.w X.K X.mg X.base X.A X.stack s H :=
 #[I.ok.frames,I.ok.mod,I.bs,Jo I.ok.bsz I.sz,I.stack,I.stkFree,I.hok,I.bare]
def Inv.after {Q:VK} (I:Inv X pins σ H s) (h:CE X.stack X.prog X.w H s Q u s'):EP X pins σ Q u s':=by let#[v,H',os,bare,un,hok,r,q]:=h;let#[hh,g,d,t,os']:=s';obtain rfl:os'=s.os:=os;show#[v,H',I.call (h':=hh) (g':=g) (d':=d) (t':=t) (ch:=[]) un hok bare (λb z=>absurd z 0xB),r,q]
end
abbrev qj (sp:Sp) (dvs:List V) (E:XK) (t:TA):TE:=λσ H Q=>t σ H λvs H1=>sp (vs++dvs) H1 Q E
abbrev ub (C:MV) (m:Str) (sp:Sp) (dvs:List V) (E:XK) (ta:TE) (t:TA):TE:=λσ H Q=>ta σ H λx H1=>∃a dx fs,x=↥a/\H1 a=⇑(.ins C dx fs)/\fs.lookup m=none /\
 t σ H1 λvs H2=>sp (x::(vs++dvs)) H2 Q E
abbrev qr (C:MV) (sp:Sp) (dvs:List V) (E:XK) (t:TA):TE:=λσ H Q=>t σ H λvs H1=>∀x dx,H1 x=none->H1 dx=none->dx≠x ->
 sp (↥x::(vs++dvs)) (upd (upd H1 dx (.own x)) x (.ins C dx [])) (λv H2=>v=.non/\Q ↥x H2) E
abbrev gH (K:MW) (fd:FuncData) (ps:List Str) (ds:List MT):Prop :=
 ∀(s:MU) (us:List MT),K.In s.heap->(us++ds).length=ps.length->BindsTo s fd #[us,[]] (ps.zip (us++ds))
def gH.all {fd:FuncData} {ps:List Str} (h:∀us:List MT,us.length=ps.length->bindArgs fd #[us,[]]=pure (ps.zip us)):gH K fd ps []:=λs us _ hl=>by rw[Jq] at hl ⊢;exact .of_eq (h us hl)
abbrev fi (CX:g7) (X:Cx) (E:XK):Prop:=∀(pins:List (MV×Obj)) (σ:St) (H:Hp) (s:MU) (e:MT) (s':MU),Inv X pins σ H s->CX X.stack H s E e s'->X.xe e s'
section
variable {X:Cx} {CX:g7} {k:Nat} {f C:MV} {fd:FuncData} {ps:List Str} {sp:Sp} {dvs:List V} {ds:List MT} {E:XK} {x m:Str} {p pos apos:Pos} {e o:Expr} {es:List Expr} {ta:TE} {t:TA}
def u6 {Q:VK} {vs:List V} (F:FnOk X.prog X.w X.K X.mg X.base CX k f fd ps sp) (hr:Room k X.A) (hb:gH X.K fd ps ds) (hd:aV dvs ds) (hx:fi CX X E)
   (I:Inv X pins σ H s) (r:aV vs us) (h:sp (vs++dvs) H Q E):wpAny 0x7 X.A (call ↥f us) (EP X pins σ Q) X.xe s:=by
 have r2:aV (vs++dvs) (us++ds):=r.append hd;have hl:(us++ds).length=ps.length:=by rw[<- r2.length]; exact F.len _ _ _ _ h
 refine MR (M4 (F.run X.A X.stack s H #[us,[]] (us++ds) (vs++dvs) Q E hr I.env0 (hb s us I.kIn hl) r2 h) λr s' hq=>?_);cases r with
 | error e=>exact hx pins σ H s e s' I hq
 | ok fl =>
   cases fl with
   | ret u=>exact I.after hq
   | next=>exact False.elim hq
   | brk=>exact False.elim hq
   | cont=>exact False.elim hq
def xF (F:FnOk X.prog X.w X.K X.mg X.base CX k f fd ps sp) (hr:Room k X.A) (hg:Gl X x) (hm:X.mg x=⇑↥f) (hk:PySem.W.keepIn X.K ↥f=true) (hb:gH X.K fd ps ds) (hd:aV dvs ds) (hx:fi CX X E)
   (ha:PA X (e::es) t) (hdb:(x==("__debug__":Str))=false:=by decide) (he:starEach (e::es) X.env=(false,eval e X.env)::starEach es X.env:=by rfl) (hpl:(backTo pos (starEach es X.env)).any (·.1)=false:=by rfl) :
   PE X (.Call (.Name x p) (e::es) [] pos) (qj sp dvs E t):=by
 intro pins s σ H Q I h;refine Kz (oZ I hg hm ?_ hdb);refine PySem.W.callWith_K (h₀:=X.base) I.ok.mod.kin hk (aQ (ha pos pins s σ H _ I h) λus s1 z72_=>z72_.e λvs H1 I1 r q=>#[I1.kIn,?_]) he hpl;exact u6 F hr hb hd hx I1 r q
def eD (he:PE X o ta) (c:Cls X.K C) (hm:Meth X.K C m f) (F:FnOk X.prog X.w X.K X.mg X.base CX k f fd ps sp) (hr:Room k X.A) (hb:gH X.K fd ps ds) (hd:aV dvs ds) (hx:fi CX X E) (ha:PA X (e::es) t)
   (hst:starEach (e::es) X.env=(false,eval e X.env)::starEach es X.env:=by rfl) (hpl:(backTo pos (starEach es X.env)).any (·.1)=false:=by rfl)
   (ht:eval (.Call (.Attribute o m apos) (e::es) [] pos) X.env=(do
     let ov <- eval o X.env
     standAt apos.atName
     let (f,first) <- holding [ov] (getMethod ov m pl)
     callWith pos f first (backTo pos (starEach (e::es) X.env)) (backToKw pos (keywordEach [] X.env))):=by rfl) :
   PE X (.Call (.Attribute o m apos) (e::es) [] pos) (ub C m sp dvs E ta t):=by
 intro pins s σ H Q I h;refine PySem.W.methodCall_KW (pl:=pl) (aQ (he pins s σ H _ I h) λu s1 z73_=>?_) ht;let#[x,H1,I1,rx,a,dx,fs,ex,ea,l,q]:=z73_;subst ex;obtain rfl:u=Value.ref a:=rx;refine x9 I1 ea c hm l ?_;refine PySem.W.callWith_K (first:=[↥a]) (h₀:=X.base) I.ok.mod.kin hm.kp (aQ (ha pos pins s1 σ H1 _ I1 q) λus s2 z74_=>z74_.e λvs H2 I2 r q2=>#[I2.kIn,?_]) hst hpl;exact u6 (us:=↥a::us) (vs:=↥a::vs) F hr hb hd hx I2 (.cons rfl r) q2
def mU (he:PE X o ta) (c:Cls X.K C) (hm:Meth X.K C m f) (F:FnOk X.prog X.w X.K X.mg X.base CX k f fd ps sp) (hr:Room k X.A) (hb:gH X.K fd ps ds) (hd:aV dvs ds) (hx:fi CX X E)
   (ht:eval (.Call (.Attribute o m apos) [] [] pos) X.env=(do
     let ov <- eval o X.env
     standAt apos.atName
     let (f,first) <- holding [ov] (getMethod ov m pl)
     callWith pos f first (backTo pos (starEach [] X.env)) (backToKw pos (keywordEach [] X.env))):=by rfl) :
   PE X (.Call (.Attribute o m apos) [] [] pos) (ub C m sp dvs E ta xG):=by
 intro pins s σ H Q I h;refine PySem.W.methodCall_KW (pl:=pl) (aQ (he pins s σ H _ I h) λu s1 z75_=>?_) ht;let#[x,H1,I1,rx,a,dx,fs,ex,ea,l,q]:=z75_;subst ex;obtain rfl:u=Value.ref a:=rx;refine x9 I1 ea c hm l ?_;exact PySem.W.callWith_K0 (first:=[↥a]) I1.kIn hm.kp (u6 (us:=[↥a]) (vs:=[↥a]) F hr hb hd hx I1 (.cons rfl .nil) q)
structure Mk (K:W.Frag) (C f:Addr):Prop where
 makes:PySem.W.makesIn K C=true
 init:PySem.W.findIn K ↥C "__init__"=⇑⇑↥f
 fn:PySem.W.isFn K ↥f=true
 kp:PySem.W.keepIn K ↥C=true
def IB {Q:VK} {vs:List V} (M:Mk X.K C f) (F:FnOk X.prog X.w X.K X.mg X.base CX k f fd ps sp) (hr:Room (k+1) X.A) (hb:gH X.K fd ps ds) (hd:aV dvs ds)
   (hx:fi CX X E) (I:Inv X pins σ H s) (r:aV vs us)
   (h:∀x dx,H x=none->H dx=none->dx≠x->sp (↥x::(vs++dvs)) (upd (upd H dx (.own x)) x (.ins C dx [])) (λv H2=>v=.non/\Q ↥x H2) E) :
   wpAny 0x7 X.A (call ↥C us) (EP X pins σ Q) X.xe s:=by
 have hq:=h (s.heap.objs.size+1) s.heap.objs.size (I.hok.fresh (Kf _)) (I.hok.fresh (JG _)) (Jn (KG _));have I2:=Inv.made (C:=C) I;have r2:aV (V.ref (s.heap.objs.size+1)::(vs++dvs)) (Value.ref (s.heap.objs.size+1)::(us++ds)):=.cons rfl (r.append hd);have hl:(Value.ref (s.heap.objs.size+1)::us++ds).length=ps.length:=by have e:=r2.length;rw[F.len _ _ _ _ hq] at e;exact e.symm
 refine MR (BU (f:=f) I.kIn M.makes M.init (beq_iff_eq.mp M.fn) (M4 (F.run _ X.stack _ _ #[Value.ref (s.heap.objs.size+1)::us,[]] (Value.ref (s.heap.objs.size+1)::(us++ds)) _ _ E (hr.make C us [])
   (I2.env0.make C us []) (hb _ (Value.ref (s.heap.objs.size+1)::us) I2.kIn hl) r2 hq) λr s' hq'=>?_))
 cases r with
 | error e=>exact hx pins σ _ _ e s' I2 hq'
 | ok fl =>
   cases fl with
   | ret u =>
     let#[v,H',I3,rv,ev,q3]:=I2.after hq';subst ev;show#[rv,#[V.ref (s.heap.objs.size+1),H',I3,rfl,q3]]
   | next=>exact False.elim hq'
   | brk=>exact False.elim hq'
   | cont=>exact False.elim hq'
def ym (M:Mk X.K C f) (F:FnOk X.prog X.w X.K X.mg X.base CX k f fd ps sp) (hr:Room (k+1) X.A) (hg:Gl X x) (hm:X.mg x=⇑↥C) (hb:gH X.K fd ps ds) (hd:aV dvs ds) (hx:fi CX X E)
   (ha:PA X (e::es) t) (hdb:(x==("__debug__":Str))=false:=by decide) (he:starEach (e::es) X.env=(false,eval e X.env)::starEach es X.env:=by rfl) (hpl:(backTo pos (starEach es X.env)).any (·.1)=false:=by rfl) :
   PE X (.Call (.Name x p) (e::es) [] pos) (qr C sp dvs E t):=by
 intro pins s σ H Q I h;refine Kz (oZ I hg hm ?_ hdb);refine PySem.W.callWith_K (h₀:=X.base) I.ok.mod.kin M.kp (aQ (ha pos pins s σ H _ I h) λus s1 z76_=>z76_.e λvs H1 I1 r q=>#[I1.kIn,?_]) he hpl;exact IB M F hr hb hd hx I1 r q
end
structure FnScope (N P:List Str) (sc:Scope):Prop where
 kind:sc.kind=.function
 co:sc.isCoroutine=false
 gen:sc.isGenerator=false
 nd:N.Nodup
 pre:N.take P.length=P
 par:∀x∈P,sc.names.lookup x=some .local\/sc.names.lookup x=some .cell
 nofree:∀y∈sc.names,y.2≠.free
def yW {kindOf:Str->JM NameKind} {x:Str}:∀{binds:List (Str×MT)} {m:Str->JM MT},(∀v,(x,v) ∉ binds)->bindL kindOf binds m x=m x
 | [],_,_=>rfl
 | (n,v)::r,m,h=>by
   unfold bindL;rw[yW λw hw=>h w (Jc _ hw)];split
   . have:x≠n:=by rintro rfl; exact h v Je
     simp [this]
   . rfl
def vc {kindOf:Str->JM NameKind} {x:Str}:∀{binds:List (Str×MT)} {m:Str->JM MT},(∀v,(x,v) ∉ binds)->bindC kindOf binds m x=m x
 | [],_,_=>rfl
 | (n,v)::r,m,h=>by
   unfold bindC;rw[vc λw hw=>h w (Jc _ hw)];split
   . rfl
   . have:x≠n:=by rintro rfl; exact h v Je
     simp [this]
def yl {kindOf:Str->JM NameKind} {x:Str} {v:MT}:∀{P:List Str} {vs:List MT} {i:Nat} {m:Str->JM MT},P.Nodup->P[i]?=⇑x->vs[i]?=⇑v->kindOf x=some .local ->
   bindL kindOf (P.zip vs) m x=⇑v
 | [],_,_,_,_,h,_,_=>by simp at h
 | _::_,[],_,_,_,_,h,_=>by simp at h
 | p::P,w::vs,0,m,nd,h1,h2,hk=>by simp at h1 h2; subst h1; subst h2;show bindL kindOf ((p,w)::P.zip vs) m p=_;unfold bindL;rw[yW λv hv=>(KO.mp nd).1 (MM hv).1,JJ hk];simp
 | p::P,w::vs,i+1,m,nd,h1,h2,hk=>by show bindL kindOf ((p,w)::P.zip vs) m x=_;unfold bindL;exact yl (i:=i) (KO.mp nd).2 ↑h1 ↑h2 hk
def xk {kindOf:Str->JM NameKind} {x:Str} {v:MT}:∀{P:List Str} {vs:List MT} {i:Nat} {m:Str->JM MT},P.Nodup->P[i]?=⇑x->vs[i]?=⇑v->kindOf x≠some .local ->
   bindC kindOf (P.zip vs) m x=⇑v
 | [],_,_,_,_,h,_,_=>by simp at h
 | _::_,[],_,_,_,_,h,_=>by simp at h
 | p::P,w::vs,0,m,nd,h1,h2,hk=>by simp at h1 h2; subst h1; subst h2;show bindC kindOf ((p,w)::P.zip vs) m p=_;unfold bindC;rw[vc λv hv=>(KO.mp nd).1 (MM hv).1,JI hk];simp
 | p::P,w::vs,i+1,m,nd,h1,h2,hk=>by show bindC kindOf ((p,w)::P.zip vs) m x=_;unfold bindC;exact xk (i:=i) (KO.mp nd).2 ↑h1 ↑h2 hk
abbrev iU (N:List Str) (vs:List V):St:=vs.map some++List.replicate (N.length - vs.length) none
abbrev bJ (CX:g7) (P:Program) (w:World) (K:MW) (mg:Str->JM MT) (base:Heap) (N:List Str) (qual:Str) (scope:Scope) (f:MV) (cd:MT) (A:Around) (outer:List Env) (s:MU) (H:Hp) (E:XK):Cx where
 prog:=P
 w:=w
 K:=K
 mg:=mg
 base:=base
 A:=A.deeper (envOfC qual scope s.heap.objs.size f cd)
 N:=N
 s₀:=s
 H₀:=H
 env:=envOfC qual scope s.heap.objs.size f cd
 outer:=outer
 stack:=envOfC qual scope s.heap.objs.size f cd::outer
 ex:=[]
 calm:=true
 fn:=λ_=>true
 pn:=[]
 xe:=λe s'=>wpAny (model P w) (A.deeper (envOfC qual scope s.heap.objs.size f cd)) (leaving (envOfC qual scope s.heap.objs.size f cd) e) (λ_ s''=>CX outer H s E e s'') (λe' s''=>CX outer H s E e' s'') s'
def vy {sc:Scope} {n:Nat} (h:sc.names.lookup x=some .cell):∃c,(cellsFrom n sc.names []).lookup x=⇑c:=by have q:=PySem.W.cellsFrom_some sc.names n [] (.inl h);exact Ks.mp q
def Il {CX:g7} {mg:Str->JM MT} {N ps:List Str} {qual:Str} {scope:Scope} {f:MV} {cd:MT} {outer:List Env} {s1:MU}{E:XK} {vs:List V}
   (S:FnScope N ps scope) (hd:A.handled=none) (e0:Env0 P w K mg base A outer s H) (hl:vs.length=ps.length) (r:aV vs us)
   (x:InCallC s s.heap.objs.size (bindL (envOfC qual scope s.heap.objs.size f cd).kindOf (ps.zip us) λ_=>none) (cellsFrom (s.heap.objs.size+1) scope.names []) (bindC (envOfC qual scope s.heap.objs.size f cd).kindOf (ps.zip us) λ_=>none) s1) :
   Inv (bJ CX P w K mg base N qual scope f cd A outer s H E) [] (iU N vs) H s1:=by
 have hpl:ps.length<=N.length:=by have:=Jj List.length S.pre; rw[Jp] at this; lia
 let#[h1,tk,rfl,hk]:=x.done;have noA:∀b:MV,b ∉ (bJ CX P w K mg base N qual scope f cd A outer s H E).ex:=λb z=>absurd (show b∈([]:List MV) from z) 0xB;show#[#[e0.mod,S.kind,7,JG _,λy z c h1 h2=>?_,λy hy=>?_,λy c _ h=>?_,λ_=>hd,Around.frames_deeper e0.frames,.inr #[7],λb z=>absurd z (noA b),e0.bs,e0.bsz,λb _ _=>noA b,λb z=>absurd z (noA b),e0.funs,e0.frf],rfl,e0.bare,Un.kept hk,#[_,x.toInCall.ns,λi y v h1 h2 h3=>?_],λy c h=>#[_,x.cell y c h],e0.hok.fresh (JG _),λy c h=>?_,λp hp=>absurd (show p∈([]:List (MV×Obj)) from hp) 0xB,e0.hok.kept hk,?_]
 . exact name_of_addr x.apart (PySem.mem_of_lookup h1) (PySem.mem_of_lookup h2)
 . have hy:scope.names.lookup y=some .cell\/scope.names.lookup y=some .free:=hy;rcases hy with hy|hy
   . exact vy hy
   . exact absurd rfl (S.nofree _ (PySem.mem_of_lookup hy))
 . exact M1 (x.above y c (PySem.mem_of_lookup h))
 . have hi:i<vs.length:=by
     unfold iU at h2;by_cases hi:i<vs.length
     . exact hi
     . rw[K1 ↑hi] at h2;rw[List.getElem?_replicate] at h2;split at h2 <;> cases h2
   have ha:vs[i]?=⇑v:=by
     unfold iU at h2;rw[KC ↑hi,JC] at h2;cases e:vs[i]? with
     | none=>rw[e] at h2; cases h2
     | some a=>rw[e] at h2; cases h2; rfl
   let#[u,hu,rv]:=r.get ha;have hp:ps[i]?=⇑y:=by rw[<- S.pre,LG ∅]; exact h1
   have ndP:ps.Nodup:=by rw[<- S.pre]; exact S.nd.sublist (List.take_sublist _ _)
   show#[u,rv,?_];rcases S.par y (J9 hp) with k|k
   . exact .inl #[k,yl ndP hp hu k]
   . let#[c,e]:=vy (n:=s.heap.objs.size+1) k;refine .inr #[.inl k,c,e,?_];have q:=x.cell y c e;rw[xk ndP hp hu (by show scope.names.lookup y≠_; rw[k]; decide)] at q;exact q
 . exact e0.hok.fresh (M1 (x.above y c (PySem.mem_of_lookup h)))
 . unfold iU;show _=N.length;rw[JE,J7,KP]
   lia
def xB {CX:g7} {mg:Str->JM MT} {k:Nat} {f:MV} {name qual:Str} {params:Arguments} {body:List Stmt} {scope:Scope} {dV kV doc pm cdv ct oc:MT} {an od:JM MV}
   {osl:Array (JM MT)} {N ps:List Str} {sp:Sp} (lk:K.lookup f=⇑#[oc,od,.func (PySem.W.fnOf name qual params body scope dV kV doc pm an cdv ct),osl]) (hcd:PySem.W.codeIn K cdv qual=true) (S:FnScope N ps scope)
   (len:∀vs H Q E,sp vs H Q E->vs.length=ps.length)
   (hbody:∀(A:Around) (outer:List Env) (s:MU) (H:Hp) (vs:List V) (Q:VK) (E:XK),Room k (A.deeper (envOfC qual scope s.heap.objs.size f cdv))->sp vs H Q E ->
     ∃t,dn (bJ CX P w K mg base N qual scope f cdv A outer s H E) body t/\t { nx:=λ_ H'=>Q .non H',rt:=Q } (iU N vs) H) :
   FnOk P w K mg base CX (k+1) f (PySem.W.fnOf name qual params body scope dV kV doc pm an cdv ct) ps sp:=by
 show#[len,λA outer s H args us vs Q E hr e0 hb r hsp=>?_];have hl:=len _ _ _ _ hsp;have KX:K.In s.heap:=e0.mod.kin.keeps λb o e=>(e0.bs b o e).1;have lim:s.heap.NoLimit:=e0.mod.nolimit.keeps λb o e=>(e0.bs b o e).1;have hkind:∀y∈ps.zip us,scope.names.lookup y.1=some .local\/(scope.names.lookup y.1=some .cell/\((cellsFrom (s.heap.objs.size+1) scope.names []).lookup y.1).isSome=true):=λ⟨n,v⟩ hy=>by
   rcases S.par n (MM hy).1 with q|q
   . exact .inl q
   . exact .inr #[q,PySem.W.cellsFrom_some _ _ _ (.inl q)]
 refine codeAny_call_function hr.depth (KX _ _ lk) rfl S.co S.gen rfl (PySem.W.codeRec_of KX hcd) (hb _ _ _ _ ?_);refine wpAny_newFunctionEnv_cells S.kind hkind λenv he s1 x=>?_;subst he;show#[lim.keeps x.toInCall.keep,codeAny_func ?_];let#[t,ht,hq]:=hbody A outer s H vs Q E (hr.deeper _) hsp;have I:Inv (bJ CX P w K mg base N qual scope f cdv A outer s H E) [] (iU N vs) H s1:=Il S hr.hd e0 hl r x;refine Ki (ht [] s1 (iU N vs) H _ I hq) (λfl s' hs=>?_) λe s' hs=>hs;have fin:∀{σ':St} {H':Hp} {v:V} {u:MT},Inv (bJ CX P w K mg base N qual scope f cdv A outer s H E) [] σ' H' s'->af v u->Q v H'->CE outer P w H s Q u s' :=
   λ{σ' H' v u} J rv q=>#[v,H',J.os,J.bare,J.base,J.hok,rv,q]
 cases fl with
 | ret u =>
   let#[v,σ',H',J,rv,q]:=hs;exact fin J rv q
 | next =>
   let#[σ',H',J,q]:=hs;exact fin (v:=V.non) (u:=Value.none) J rfl q
 | brk =>
   let#[_,_,_,q]:=hs;exact False.elim q
 | cont =>
   let#[_,_,_,q]:=hs;exact False.elim q
section
variable {X:Cx} {x:Str} {p pos:Pos} {e:Expr} {es:List Expr} {t:TA} {id T:String} {r:List V->Hp->VK->Prop}
abbrev tCB (r:List V->Hp->VK->Prop) (t:TA):TE:=λσ H Q=>t σ H λvs H1=>r vs H1 Q
def b6 (hc:ay X (.builtin id) r) (hg:Gl X x) (hm:X.mg x=none) (hv:bootBuiltins x=⇑(.builtin id)) (ha:PA X (e::es) t) (hn:x≠"__name__":=by decide) (hdb:(x==("__debug__":Str))=false:=by decide)
   (he:starEach (e::es) X.env=(false,eval e X.env)::starEach es X.env:=by rfl) (hpl:(backTo pos (starEach es X.env)).any (·.1)=false:=by rfl):PE X (.Call (.Name x p) (e::es) [] pos) (tCB r t):=by
 intro pins s σ H Q I h;refine Kz (ij I hg hm hv ?_ hn hdb);exact PyProof.Rows.callWith_builtin1 (aQ (ha pos pins s σ H _ I h) λus s1 z82_=>by let#[vs,H1,I1,r1,q1]:=z82_; exact hc pins s1 σ H1 vs us Q I1 r1 q1) he hpl
def eO (hc:ay X (.type T) r) (hg:Gl X x) (hm:X.mg x=none) (hv:bootBuiltins x=⇑(.type T)) (ha:PA X (e::es) t) (hn:x≠"__name__":=by decide) (hdb:(x==("__debug__":Str))=false:=by decide)
   (he:starEach (e::es) X.env=(false,eval e X.env)::starEach es X.env:=by rfl) (hpl:(backTo pos (starEach es X.env)).any (·.1)=false:=by rfl):PE X (.Call (.Name x p) (e::es) [] pos) (tCB r t):=by
 intro pins s σ H Q I h;refine Kz (ij I hg hm hv ?_ hn hdb);exact KE (aQ (ha pos pins s σ H _ I h) λus s1 z83_=>by let#[vs,H1,I1,r1,q1]:=z83_; exact hc pins s1 σ H1 vs us Q I1 r1 q1) he hpl
end
end L2
namespace HT
open PySem PyProof.Rows
section
variable {prog:Program} {w:World} {A:Around} {E:MT->MU->Prop} {s:MU}
def cat_tup {t b:MV} {vs ws:List MT} {Q:MT->MU->Prop} (ht:IsTup s.heap t vs.toArray) (hb:IsTup s.heap b ws.toArray) (hv:vs≠[])
   (h1:ws=[]->Q ↥t s) (h2:ws≠[]->Q ↥s.heap.objs.size { s with heap:=s.heap.push { cls:=.type "tuple",data:=.seq (vs++ws).toArray } })
   (hsz:vs.length+ws.length<=sizeLine):wpAny 0x9 A (binaryOp .Add ↥t ↥b) Q E s:=by
 obtain⟨⟨cls,dd,data,sl⟩,ho,hc,n,hd⟩:=id ht;obtain⟨⟨cls2,dd2,data2,sl2⟩,ho2,hc2,n2,hd2⟩:=id hb;simp only at hc hd hc2 hd2;subst hc hd hc2 hd2;have e:vs.toArray++ws.toArray=(vs++ws).toArray:=by simp
 by_cases hw:ws=[]
 . exact concat_meets #[_,ho,rfl] #[_,ho2,rfl] noFill_tuple_add seq_tuple_add PySem.F.slot_tuple_add MD (M5 _ _)
     (tuple_addW1 t b vs.toArray ws.toArray n n2 dd dd2 sl sl2 ↑hv (by simp [hw])) #[ho,ho2,h1 hw]
 . refine concat_meets #[_,ho,rfl] #[_,ho2,rfl] noFill_tuple_add seq_tuple_add PySem.F.slot_tuple_add MD (M5 _ _)
     (tuple_addW2 t b vs.toArray ws.toArray n n2 dd dd2 sl sl2 ↑hv ↑hw (by rw[JV,JV]; exact hsz)) #[ho,ho2,?_]
   rw[e];exact h2 hw
abbrev sIx (n d:Nat):JM Int->Nat
 | none=>d
 | some v=>if v<0 then(v+(n:Int)).toNat else min v.toNat n
def sIx_nat (n d k:Nat):sIx n d ⇑(k:Int)=min k n:=by show(if(k:Int)<0 then((k:Int)+(n:Int)).toNat else min (k:Int).toNat n)=min k n;rw[JI ∅,K3]
def Bz (n d:Nat) (hd:d<=n) (o:JM Int):sIx n d o<=n:=by
 cases o with
 | none=>exact hd
 | some v =>
   show(if v<0 then(v+(n:Int)).toNat else min v.toNat n)<=n;by_cases hv:v<0
   . rw[JJ hv]; lia
   . rw[JI hv]; exact Nat.min_le_right _ _
def wt (v:Int) (n d:Nat):(if v<0 then max (v+(n:Int)) 0 else min v (n:Int))=((sIx n d ⇑v:Nat):Int):=by
 show(if v<0 then max (v+(n:Int)) 0 else min v (n:Int))=(((if v<0 then(v+(n:Int)).toNat else min v.toNat n):Nat):Int);by_cases hv:v<0
 . simp only[JJ hv]; lia
 . simp only[JI hv]; lia
def GC (lo hi:JM Int) (n:Nat):Builtin.Slice.sliceAdjust lo hi 1 (n:Int)=(((sIx n 0 lo:Nat):Int),((sIx n n hi:Nat):Int)):=by
 have h1:¬ ((1:Int)<0):=by lia
 unfold Builtin.Slice.sliceAdjust;simp only[h1,if_false];refine Prod.ext ?_ ?_
 . cases lo with
   | none=>rfl
   | some v=>exact wt v n 0
 . cases hi with
   | none=>rfl
   | some v=>exact wt v n n
def GS (i j:Nat):Builtin.Slice.slicePlaces (i:Int) (j:Int) 1=j - i:=by
 unfold Builtin.Slice.slicePlaces;have h1:(1:Int) > 0:=by lia
 simp only[h1,if_true,Int.ediv_one];split <;> lia
def xf {v:MT} {o:JM Int} {Q:JM Int->MU->Prop} (p:IsPart v o) (h:Q o s):wpAny 0x9 A (Builtin.Slice.slicePartIndex v) Q E s:=by
 cases p with
 | none=>exact slicePart_none h
 | int i t=>exact slicePart_int h
def vd {sl:MV} {vl vu:MT} {lo hi:JM Int} {n:Nat} {Q:Int×Int×Nat->MU->Prop} (hs:s.heap.IsSliceOf sl vl vu .none) (pl:IsPart vl lo) (pu:IsPart vu hi)
   (h:Q (((sIx n 0 lo:Nat):Int),1,sIx n n hi - sIx n 0 lo) s):wpAny 0x9 A (Builtin.Slice.sliceApplied ↥sl (pure (n:Int))) Q E s:=by
 let#[os,hos,hcs,hds]:=id hs;unfold Builtin.Slice.sliceApplied Builtin.Slice.sliceFields;refine J8 (J8 (Jt hos hds (x:=vl) rfl (J8 (Jt hos hds (x:=vu) rfl (J8 (Jt hos hds (x:=.none) rfl (JO ?_)))))));refine J8 (slicePart_none ?_);show wpAny _ _ (if((1:Int)==0)=true then _ else _) _ _ s;rw[JI #[]];refine J8 (xf pl (J8 (xf pu (J8 (JO ?_)))));show wpAny _ _ (match Builtin.Slice.sliceAdjust lo hi 1 (n:Int) with|(lo,hi)=>pure (lo,(1:Int),Builtin.Slice.slicePlaces lo hi 1)) _ _ s;rw[GC lo hi n];show wpAny _ _ (pure (((sIx n 0 lo:Nat):Int),(1:Int),Builtin.Slice.slicePlaces ((sIx n 0 lo:Nat):Int) ((sIx n n hi:Nat):Int) 1)) _ _ s;rw[GS];exact JO h
def Dr (xs:Array MT) (i k:Nat):((List.range k).filterMap λ(m:Nat)=>xs[((i:Int)+(m:Int) * 1).toNat]?).toArray=((xs.toList.drop i).take k).toArray:=by
 have e:(λ(m:Nat)=>xs[((i:Int)+(m:Int) * 1).toNat]?)=λm=>xs[i+m]?:=by
   funext m;have:((i:Int)+(m:Int) * 1).toNat=i+m:=by lia
   rw[this]
 rw[e];have:=pick_run xs i k;rw[List.filterMap_map] at this;have e2:((λx=>xs[x]?) ∘ λx=>i+x)=λm=>xs[i+m]?:=rfl;rw[e2] at this;rw[this]
def getItem_tuple_cut {t sl:MV} {items:Array MT} {vl vu:MT} {lo hi:JM Int} {Q:MT->MU->Prop} (ht:IsTup s.heap t items) (hs:s.heap.IsSliceOf sl vl vu .none) (pl:IsPart vl lo) (pu:IsPart vu hi)
   (hw:¬ (sIx items.size 0 lo=0/\sIx items.size items.size hi=items.size))
   (h:Q ↥s.heap.objs.size { s with heap:=s.heap.push { cls:=.type "tuple",data:=.seq ((items.toList.drop (sIx items.size 0 lo)).take (sIx items.size items.size hi - sIx items.size 0 lo)).toArray } })
   (hsz:items.size<=sizeLine):wpAny 0x9 A (getItem ↥t ↥sl) Q E s:=by
 have htake:sizeOk (.seq ((items.toList.drop (sIx items.size 0 lo)).take (sIx items.size items.size hi - sIx items.size 0 lo)).toArray):=by
   show((items.toList.drop (sIx items.size 0 lo)).take (sIx items.size items.size hi - sIx items.size 0 lo)).toArray.size<=sizeLine;rw[JV,Jp,Kt,Ll]
   lia
 have hj:sIx items.size items.size hi<=items.size:=Bz _ _ (JG _) hi;let#[os,hos,hcs,hds]:=id hs;have hTs:s.TypeIs ↥sl "slice":=#[os,hos,hcs]
 unfold getItem
 try with_reducible refine KY ?_
 first|refine J8 (JO ?_)|skip
 refine J8 (Lw ht.typeIs #[] ?_);refine J8 (wpAny_callSpecial?_slot (name:=Str.ofString "__getitem__") ht.typeIs K9
   (Ka K9 ht.typeIs entry_tuple_getitem ?_ (args_tuple_getitem _ _)))
 show wpAny _ _ (Builtin.Tuple.tupleItemsOf ↥t >>= _) _ _ s;refine J8 (tupleItemsOf_ ht ?_);refine J8 (Lf hTs ?_);rw[JJ #[]];refine J8 (vd hs pl pu ?_);have hno:¬ ((((sIx items.size 0 lo:Nat):Int)==0&&(1:Int)==1&&(sIx items.size items.size hi - sIx items.size 0 lo)==items.size)=true):=by intro q;rw[Jf,Jf] at q;have q1:((sIx items.size 0 lo:Nat):Int)=0:=eq_of_beq q.1.1;have q2:sIx items.size items.size hi - sIx items.size 0 lo=items.size:=eq_of_beq q.2;exact hw #[∅,∅]
 show wpAny _ _ (if(((sIx items.size 0 lo:Nat):Int)==0&&(1:Int)==1&&(sIx items.size items.size hi - sIx items.size 0 lo)==items.size)=true then _ else _) _ _ s;rw[JI hno,Dr]
 first
   | exact J8 (m:=Builtin.Tuple.tupleExact _) (KL (JO ⟨_,rfl,JO h⟩) htake)
   | exact J8 (m:=Builtin.Tuple.tupleExact _) (KL (J8 (JO (JO ⟨_,rfl,JO h⟩))) htake)
   | exact J8 (J8 (m:=Builtin.Tuple.tupleExact _) (KL (JO (JO ⟨_,rfl,JO h⟩)) htake))
   | exact J8 (J8 (m:=Builtin.Tuple.tupleExact _) (KL (JO ⟨_,rfl,JO h⟩) htake))
end
end HT
namespace L2
open PySem PySem.Spec PyProof.Rows
noncomputable abbrev TO:=St->Hp->(JM Int->Hp->Prop)->Prop
abbrev PO (X:Cx) (e:JM Expr) (t:TO):Prop :=
 ∀(pins:List (MV×Obj)) (s:MU) (σ:St) (H:Hp) (Q:JM Int->Hp->Prop),Inv X pins σ H s->t σ H Q ->
   wpAny 0x7 X.A (evalPart e X.env) (λu s'=>∃o H',Inv X pins σ H' s'/\IsPart u o/\Q o H') X.xe s
abbrev Bv:TO:=λ_ H Q=>Q none H
abbrev Cq (t:TE):TO:=λσ H Q=>t σ H λx H1=>∃i,x=.int i/\Q ⇑i H1
section
variable {X:Cx} {e:Expr} {te:TE} {lo hi:JM Expr} {tl th:TO} {pos p2:Pos}
def wR:PO X none Bv:=by intro pins s σ H Q I h;rw[evalPart_none];exact JO #[none,H,I,.none,h]
def gr (h:PE X e te):PO X ⇑e (Cq te):=by intro pins s σ H Q I hw;rw[evalPart_some];refine aQ (h pins s σ H _ I hw) λu s1 z84_=>?_;let#[x,H1,I1,r1,q1]:=z84_;let#[i,rfl,q]:=q1;let#[t,rfl]:=r1;show#[⇑i,H1,I1,.int i t,q]
abbrev fk (X:Cx) (r:V->JM Int->JM Int->Hp->VK->Prop):Prop :=
 ∀(pins:List (MV×Obj)) (s:MU) (σ:St) (H:Hp) (x:V) (v vl vu:MT) (lo hi:JM Int) (sl:MV) (Q:VK),Inv X pins σ H s->af x v->s.heap.IsSliceOf sl vl vu .none->IsPart vl lo->IsPart vu hi->r x lo hi H Q ->
   ∃T id,typeLookup (.type T) "__getitem__"=pure ⇑(.builtin id)/\s.TypeIs v T/\wpAny 0x7 X.A (getItem v ↥sl) (EP X pins σ Q) X.xe s
def fk.or {r r':V->JM Int->JM Int->Hp->VK->Prop} (h:fk X r) (h':fk X r'):fk X (λx lo hi H Q=>r x lo hi H Q\/r' x lo hi H Q):=by
 intro pins s σ H x v vl vu lo hi sl Q I rx hs pl pu q;rcases q with q|q
 . exact h pins s σ H x v vl vu lo hi sl Q I rx hs pl pu q
 . exact h' pins s σ H x v vl vu lo hi sl Q I rx hs pl pu q
abbrev tSl (r:V->JM Int->JM Int->Hp->VK->Prop) (te:TE) (tl th:TO):TE:=λσ H Q=>te σ H λx H1=>tl σ H1 λl H2=>th σ H2 λu H3=>r x l u H3 Q
def kG {r:V->JM Int->JM Int->Hp->VK->Prop} (hr:fk X r) (he:PE X e te) (hl:PO X lo tl) (hu:PO X hi th):PE X (.Subscript e (.Slice lo hi none p2) pos) (tSl r te tl th):=by intro pins s σ H Q I h;refine Subscript_ (aQ (he pins s σ H _ I h) λv s1 z85_=>?_);let#[x,H1,I1,r1,q1]:=z85_;refine wpAny_Slice (aQ (hl pins s1 σ H1 _ I1 q1) λvl s2 ⟨l,H2,I2,pl,q2⟩=>aQ (hu pins s2 σ H2 _ I2 q2) λvu s3 z87_=>?_);let#[u,H3,I3,pu,q3]:=z87_;rw[evalPart_none];refine JO ?_;have I4:Inv X pins σ H3 { s3 with heap:=s3.heap.push { cls:=.type "slice",data:=.fields (List.toArray [vl,vu,.none]) } }:=I3.kept (t':=s3.toks) λb ob q=>JD _ q;let#[T,id,hT,ht,hg]:=hr pins { s3 with heap:=s3.heap.push { cls:=.type "slice",data:=.fields (List.toArray [vl,vu,.none]) } } σ H3 x v vl vu l u s3.heap.objs.size Q I4 r1 (Heap.IsSliceOf.new ..) pl pu q3;show wpAny 0x7 X.A (subscriptTail e (.Slice lo hi none p2) v ↥s3.heap.objs.size) (EP X pins σ Q) X.xe { s3 with heap:=s3.heap.push { cls:=.type "slice",data:=.fields (List.toArray [vl,vu,.none]) } };exact tail_any (ops:=[↥s3.heap.objs.size,v]) ht hT hg (by with_unfolding_all rfl)
abbrev fV (xs:List V) (lo hi:JM Int):List V:=(xs.drop (HT.sIx xs.length 0 lo)).take (HT.sIx xs.length xs.length hi - HT.sIx xs.length 0 lo)
def ua (xs:List V) (lo hi:JM Int):(fV xs lo hi).length<=xs.length:=by
 unfold fV;rw[Jp,Kt]
 lia
abbrev xx (K:MW):V->JM Int->JM Int->Hp->VK->Prop:=λx lo hi H Q=>∃a xs,x=↥a/\aJ K H a xs /\
 ¬ (HT.sIx xs.length 0 lo=0/\HT.sIx xs.length xs.length hi=xs.length)/\∀p,H p=none->Q ↥p (upd H p (.tup (fV xs lo hi)))
def Ir:fk X (xx X.K):=by
 intro pins s σ H x v vl vu lo hi sl Q I rx hs pl pu h;let#[a,xs,rfl,hx,hw,q]:=h;cases rx;let#[its,r,ht,hz]:=I.tuple hx;have hlen:its.toArray.size=xs.length:=by rw[JV]; exact r.length.symm
 show#["tuple",_,K9.lookup,ht.typeIs,?_];refine HT.getItem_tuple_cut ht hs pl pu (by rw[hlen]; exact hw) ?_ (by rw[hlen]; exact hz);rw[hlen];show#[↥s.heap.objs.size,_,I.laid (t':=s.toks) (o:=.tup (fV xs lo hi)) (λb ob q=>JD _ q) (JG _) ?_,rfl,q _ (I.hok.fresh (JG _))];show#[Jo (ua xs lo hi) hz,_,(r.drop (HT.sIx xs.length 0 lo)).take (HT.sIx xs.length xs.length hi - HT.sIx xs.length 0 lo),IsTup.new _ _]
abbrev yQ (K:MW):R2:=λx y H Q=>∃a b xs ys,x=↥a/\y=↥b/\aJ K H a xs/\aJ K H b ys/\xs≠[]/\xs.length+ys.length<=sizeLine /\
 (ys=[]->Q ↥a H)/\(ys≠[]->∀p,H p=none->Q ↥p (upd H p (.tup (xs++ys))))
def aV.nil_iff {xs:List V} {us:List MT} (r:aV xs us):us=[] <-> xs=[]:=by
 cases r with
 | nil=>simp
 | cons _ _=>simp
def GN:bc X (binaryOp .Add) (yQ X.K):=by intro pins s σ H x y v u Q I rx ry h;let#[a,b,xs,ys,rfl,rfl,ha,hb,hx,hz,q1,q2]:=h;cases rx;cases ry;let#[its,r1,p1,_]:=I.tuple ha;let#[its2,r2,p2,_]:=I.tuple hb;refine HT.cat_tup p1 p2 (λz=>hx (r1.nil_iff.mp z)) (λz=>#[↥a,H,I,rfl,q1 (r2.nil_iff.mp z)]) (λz=>?_) (by rw[<- r1.length,<- r2.length]; exact hz);show#[↥s.heap.objs.size,_,I.laid (t':=s.toks) (o:=.tup (xs++ys)) (λb ob q=>JD _ q) (JG _) ?_,rfl,q2 (λw=>z (r2.nil_iff.mpr w)) _ (I.hok.fresh (JG _))];show#[by rw[JE]; exact hz,_,r1.append r2,IsTup.new _ _]
end
abbrev dM (n:Nat) (i:Int):JM Nat:=if 0<=i then(if i<n then ⇑i.toNat else none) else if -(n:Int)<=i then ⇑(i+n).toNat else none
abbrev bo {α:Type} (xs:List α) (i:Int):JM α:=(dM xs.length i).bind λj=>xs[j]?
variable {n:Nat}
def wy {i:Int} {j:Nat} (h:dM n i=⇑j):seqIndex? i n=⇑j/\j<n/\-(n:Int)<=i/\i<n:=by
 unfold dM at h;by_cases h0:0<=i
 . rw[JJ h0] at h;by_cases h1:i<n
   . rw[JJ h1] at h;have e:i.toNat=j:=Option.some.inj h;show#[by rw[seqIndex_of h0 h1,e],∅,∅,h1]
   . rw[JI h1] at h; cases h
 . rw[JI h0] at h;by_cases h1:-(n:Int)<=i
   . rw[JJ h1] at h;have e:(i+n).toNat=j:=Option.some.inj h;show#[by rw[seqIndex_neg ∅ h1,e],∅,h1,∅]
   . rw[JI h1] at h; cases h
def sk {α:Type} {xs:List α} {i:Int} {v:α} (h:bo xs i=⇑v):∃j,seqIndex? i xs.length=⇑j/\xs[j]?=⇑v/\j<xs.length/\-(xs.length:Int)<=i/\i<xs.length:=by
 unfold bo at h;cases e:dM xs.length i with
 | none=>rw[e] at h; cases h
 | some j =>
   rw[e] at h;let#[h1,h2,h3,h4]:=wy e;show#[j,h1,h,h2,h3,h4]
def bY {α:Type} {xs:List α} {j:Nat} {v:α} (h:xs[j]?=⇑v):bo xs (j:Int)=⇑v:=by
 have hj:j<xs.length:=(JF.mp h).1;have e:dM xs.length (j:Int)=⇑j:=by unfold dM;rw[JJ ∅,JJ ∅]; simp
 unfold bo; rw[e]; exact h
abbrev FV (b:Expr):Prop:=∀o i,subscripted b false o i=operate [o,i] (getItem o i)
abbrev aN (X:Cx) (r:R2):Prop :=
 ∀(value slice:Expr) (pins:List (MV×Obj)) (s:MU) (σ:St) (H:Hp) (x y:V) (v u:MT) (Q:VK),Inv X pins σ H s->af x v->af y u->r x y H Q ->
   subscripted slice false v u=operate [v,u] (getItem v u)->wpAny 0x7 X.A (subscriptTail value slice v u) (EP X pins σ Q) X.xe s
abbrev nQ (X:Cx) (id:String) (r:V->List V->Hp->VK->Prop):Prop :=
 ∀(pins:List (MV×Obj)) (s:MU) (σ:St) (H:Hp) (x:V) (xs:List V) (v:MT) (us:List MT) (Q:VK),Inv X pins σ H s->af x v->aV xs us->r x xs H Q ->
   wpAny 0x7 X.A (call (.builtin id) (v::us)) (EP X pins σ Q) X.xe s
variable {x:V}
section
variable {X:Cx} {a b:Expr} {ta tb:TE} {pos:Pos}
def aN.or {r r':R2} (h:aN X r) (h':aN X r'):aN X (λx y H Q=>r x y H Q\/r' x y H Q):=by
 intro value slice pins s σ H x y v u Q I rx ry q hs;rcases q with q|q
 . exact h value slice pins s σ H x y v u Q I rx ry q hs
 . exact h' value slice pins s σ H x y v u Q I rx ry q hs
def aM {r:R2} (hr:aN X r) (ha:PE X a ta) (hb:PE X b tb) (hs:FV b):PE X (.Subscript a b pos) (jQ r ta tb):=by intro pins s σ H Q I h;exact Subscript_ (qc ha hb I h λv u s2 x y H2 I2 rx ry q=>hr a b pins s2 σ H2 x y v u Q I2 rx ry q (hs _ _))
abbrev wc (K:MW):R2:=λx y H Q=>∃p xs i v,x=↥p/\y=.int i/\aH K H p xs/\bo xs i=⇑v/\Q v H
abbrev oM (K:MW):R2:=λx y H Q=>∃p xs i v,x=↥p/\y=.int i/\aJ K H p xs/\bo xs i=⇑v/\Q v H
abbrev B4:R2:=λx y H Q=>∃z i c,x=.str z/\y=.int i/\z.length<=sizeLine/\bo z.cps.toList i=⇑c/\Q (.str #[(List.toArray [c])]) H
def jN:aN X (wc X.K):=by
 intro value slice pins s σ H x y v u Q I rx ry h hs;let#[p,xs,i,z,rfl,rfl,hq,he,q]:=h;cases rx;let#[t,rfl]:=ry;let#[its,r,pl,hz]:=I.list hq;let#[j,h1,h2,h3,h4,h5]:=sk he;let#[w,ew,rw']:=r.get h2;have hl:=r.length;have hn:=jf;have fin:EP X pins σ Q w s:=#[z,H,I,rw',q]
 by_cases h0:0<=i
 . have hj:i.toNat=j:=by rw[seqIndex_of h0 h5] at h1;exact Option.some.inj h1
   exact item_listR pl.isList h0 ∅ (by rw[hj]; simpa using ew) fin hs
 . have hj:(i+(its.toArray.size:Int)).toNat=j:=by rw[seqIndex_neg ∅ h4] at h1;rw[JV,<- hl];exact Option.some.inj h1
   exact subscriptTail_builtinR (x:=w) pl.isList.typeIs slot_list_getitem.lookup
     (wpAny_getItem_list_neg (Q:=λr s'=>r=w/\EP X pins σ Q r s') pl.isList ∅ (by rw[JV] <;> lia) ∅ (by rw[hj]; simpa using ew) #[rfl,fin]) hs
def iz:aN X (oM X.K):=by
 intro value slice pins s σ H x y v u Q I rx ry h hs;let#[p,xs,i,z,rfl,rfl,hq,he,q]:=h;cases rx;let#[t,rfl]:=ry;let#[its,r,pl,hz]:=I.tuple hq;let#[j,h1,h2,h3,h4,h5]:=sk he;let#[w,ew,rw']:=r.get h2;have hl:=r.length;have hn:=jf;have fin:EP X pins σ Q w s:=#[z,H,I,rw',q]
 exact subscriptTail_builtinR (x:=w) pl.typeIs slot_tuple_getitem.lookup
   (getItem_tuple (j:=j) (Q:=λr s'=>r=w/\EP X pins σ Q r s') pl ∅ ∅ (by rw[JV,<- hl]; exact h1) ↑ew #[rfl,fin]) hs
def kz:aN X B4:=by
 intro value slice pins s σ H x y v u Q I rx ry h hs;let#[z,i,c,rfl,rfl,hz,he,q]:=h;let#[t,rfl]:=rx;let#[t',rfl]:=ry;let#[j,h1,h2,h3,h4,h5]:=sk he;have hl:z.cps.toList.length=z.length:=by simp [Str.length]
 rw[hl] at h1 h4 h5;have hn:=jf;exact tail_any (typeIs_str s z t) slot_str_getitem.lookup (getItem_str (c:=c) (by have e1:decide (i < -(2 ^ 63:Int))=false:=J' ∅;have e2:decide (i>=2 ^ 63)=false:=J' ∅;rw[e1,e2,Ls]) (by rw[h1]; simpa using h2) #[.str #[(List.toArray [c])],H,I.tok _,#[5],q]) hs
def CI (its:List MT) (n j:Nat) (u:MT):Obj.mapSeq (·.setIfInBounds j u) { cls:=.type "list",data:=.seq its.toArray n }={ cls:=.type "list",data:=.seq (its.set j u).toArray n }:=by simp [Obj.mapSeq]
def Inv.lst {pins:List (MV×Obj)} {σ:St} {H:Hp} {s:MU} {p:MV} {xs:List V} (I:Inv X pins σ H s) (h:H p=⇑(.lst xs)) :
   ∃(its:List MT) (n:Nat),aV xs its/\s.heap.get? p=some { cls:=.type "list",data:=.seq its.toArray n }/\xs.length<=sizeLine:=by
 let#[z,its,n,r,e]:=I.hok p _ h;show#[its,n,r,e,z]
def Inv.lstUpd {pins:List (MV×Obj)} {σ:St} {H:Hp} {s:MU} {p:MV} {xs ys:List V} {its its':List MT} {n':Nat}{f:Obj->Obj} (I:Inv X pins σ H s) (h:H p=⇑(.lst xs))
   (ho:s.heap.get? p=some { cls:=.type "list",data:=.seq its.toArray n }) (hf:f { cls:=.type "list",data:=.seq its.toArray n }={ cls:=.type "list",data:=.seq its'.toArray n' }) (r:aV ys its') (hz:ys.length<=sizeLine) (t:Nat) :
   Inv X pins σ (upd H p (.lst ys)) { s with heap:=s.heap.update p f,toks:=t }:=by
 have e:(s.heap.update p f).get? p=some { cls:=.type "list",data:=.seq its'.toArray n' }:=by rw[KQ f ho (by rw[hf] <;> rfl),hf]
 refine I.write (x:=p) (e:=p) (by rw[h]; trivial) (.inl rfl) (λb u hb q=>(K4 _ _ (Ne.symm hb))\q) #[_,e] ?_;show#[hz,its',n',r,e]
abbrev E8:V->V->V->Hp->(Hp->Prop)->Prop:=λo i v H Q=>∃p xs k j,o=↥p/\i=.int k/\H p=⇑(.lst xs)/\dM xs.length k=⇑j/\Q (upd H p (.lst (xs.set j v)))
def ka:vI X E8:=by
 intro pins s σ H o i v ov iv u Q I ro ri rv h;let#[p,xs,k,j,rfl,rfl,hp,hj,q]:=h;cases ro;let#[t,rfl]:=ri;let#[its,n,r,ho,hz]:=I.lst hp;let#[h1,h2,h3,h4]:=wy hj;have hl:=r.length;have hn:=jf;have I':Inv X pins σ (upd H p (.lst (xs.set j v))) { s with heap:=s.heap.update p (Obj.mapSeq (·.setIfInBounds j u)) } :=
   I.lstUpd hp ho (CI its n j u) (r.set rv j) (by rw[Ko]; exact hz) s.toks
 by_cases h0:0<=k
 . have hk:k.toNat=j:=by rw[seqIndex_of h0 h4] at h1;exact Option.some.inj h1
   exact PySem.W.ki_setAt ho h0 ∅ (by rw[JV,<- hl]; exact h4) (by rw[hk]; show#[_,I',q])
 . have hk:(k+(its.toArray.size:Int)).toNat=j:=by rw[seqIndex_neg ∅ h3] at h1;rw[JV,<- hl];exact Option.some.inj h1
   exact PySem.W.ki_setBack ho ∅ (by rw[JV,<- hl]; exact h3) ∅ (by rw[hk]; show#[_,I',q])
def Gc (lo hi:JM Int) (n:Nat):(sliceBounds lo hi none n).1=((HT.sIx n 0 lo:Nat):Int)/\(sliceBounds lo hi none n).2.1=((HT.sIx n n hi:Nat):Int)/\(sliceBounds lo hi none n).2.2=1:=by
 show#[?_,?_,rfl]
 . cases lo with
   | none=>simp [sliceBounds,HT.sIx]
   | some i =>
     simp only[sliceBounds,HT.sIx,Option.getD_none,show(1:Int) > 0 by decide,if_true];by_cases h:i<0
     . simp only[h,if_true] <;> lia
     . simp only[h,if_false] <;> lia
 . cases hi with
   | none=>simp [sliceBounds,HT.sIx]
   | some i =>
     simp only[sliceBounds,HT.sIx,Option.getD_none,show(1:Int) > 0 by decide,if_true];by_cases h:i<0
     . simp only[h,if_true] <;> lia
     . simp only[h,if_false] <;> lia
def EE (its:List MT) (lo hi:JM Int):slicePick its.toArray lo hi none=((its.drop (HT.sIx its.length 0 lo)).take (HT.sIx its.length its.length hi - HT.sIx its.length 0 lo)).toArray:=by let#[h1,h2,h3]:=Gc lo hi its.toArray.size;unfold slicePick;rw[h1,h2,h3];simp only[sliceRange_one,pick_run,JV] <;> rfl
abbrev xP (K:MW):V->JM Int->JM Int->Hp->VK->Prop:=λx lo hi H Q=>∃a xs,x=↥a/\aH K H a xs/\∀p,H p=none->Q ↥p (upd H p (.lst (fV xs lo hi)))
def rV:fk X (xP X.K):=by intro pins s σ H x v vl vu lo hi sl Q I rx hs pl pu h;let#[a,xs,rfl,hx,q]:=h;cases rx;let#[its,r,ht,hz]:=I.list hx;have hlen:=r.length;show#["list",_,slot_list_getitem.lookup,ht.isList.typeIs,?_];refine wpAny_getItem_list_slice ht.isList hs pl pu .none 0xB ?_ (by rw[JV] <;> lia);rw[EE,<- hlen];show#[↥s.heap.objs.size,_,I.laid (t':=s.toks) (o:=.lst (fV xs lo hi)) (λb ob q=>JD _ q) (JG _) ?_,rfl,q _ (I.hok.fresh (JG _))];show#[Jo (ua xs lo hi) hz,_,(0),(r.drop (HT.sIx xs.length 0 lo)).take (HT.sIx xs.length xs.length hi - HT.sIx xs.length 0 lo),Ja _ rfl]
abbrev gc:V->Bool
 | .non=>true
 | .bl _=>true
 | .int _=>true
 | .str _=>true
 | _=>false
abbrev fE:V->V->Bool
 | .non,.non=>true
 | .bl a,.bl b=>a==b
 | .bl a,.int b=>(if a then 1 else 0)==b
 | .int a,.bl b=>a==(if b then 1 else 0)
 | .int a,.int b=>a==b
 | .str a,.str b=>a==b
 | _,_=>false
def D4 {A:Around} {s:MU} {y:V}{u v:MT} (ry:af y u) (rx:af x v) (fy:gc y=true) (fx:gc x=true):SeqAt.EqAt A s u v (fE y x):=by
 cases y with
 | non =>
   cases ry;cases x with
   | non=>cases rx; exact SeqAt.EqAt.same _
   | bl b=>cases rx; exact SeqAt.EqAt.none_bool b
   | int b=>let#[t,rfl]:=rx; exact SeqAt.EqAt.none_int b t
   | str b=>let#[t,rfl]:=rx; exact SeqAt.EqAt.none_str b t
   | _=>exact absurd (show false=true from fx) JP
 | bl a =>
   cases ry;cases x with
   | non=>cases rx; exact SeqAt.EqAt.bool_none a
   | bl b=>cases rx; exact SeqAt.EqAt.bool_bool a b
   | int b=>let#[t,rfl]:=rx; exact SeqAt.EqAt.bool_int a b t
   | str b=>let#[t,rfl]:=rx; exact SeqAt.EqAt.bool_str a b t
   | _=>exact absurd (show false=true from fx) JP
 | int a =>
   let#[t',rfl]:=ry;cases x with
   | non=>cases rx; exact SeqAt.EqAt.int_none a t'
   | bl b=>cases rx; exact SeqAt.EqAt.int_bool a t' b
   | int b=>let#[t,rfl]:=rx; exact SeqAt.EqAt.int_int a t' b t
   | str b=>let#[t,rfl]:=rx; exact SeqAt.EqAt.int_str a t' b t
   | _=>exact absurd (show false=true from fx) JP
 | str a =>
   let#[t',rfl]:=ry;cases x with
   | non=>cases rx; exact SeqAt.EqAt.str_none a t'
   | bl b=>cases rx; exact SeqAt.EqAt.str_bool a t' b
   | int b=>let#[t,rfl]:=rx; exact SeqAt.EqAt.str_int a t' b t
   | str b=>let#[t,rfl]:=rx; exact SeqAt.EqAt.str_str a t' b t
   | _=>exact absurd (show false=true from fx) JP
 | _=>exact absurd (show false=true from fy) JP
abbrev gT (x:V) (u:MT):Bool:=match u with
 | .none=>fE .non x
 | .bool b=>fE (.bl b) x
 | .int i _=>fE (.int i) x
 | .str z _=>fE (.str z) x
 | _=>false
def qe {y:V}{u:MT} (r:af y u) (f:gc y=true):gT x u=fE y x:=by
 cases y with
 | non=>cases r; rfl
 | bl b=>cases r; rfl
 | int i=>let#[t,rfl]:=r; rfl
 | str z=>let#[t,rfl]:=r; rfl
 | _=>exact absurd (show false=true from f) JP
def xE :∀{xs:List V} {us:List MT},aV xs us->xs.all gc=true->us.any (gT x)=xs.any λy=>fE y x:=by
 intro xs us h f
 induction h with
 | nil=>rfl
 | cons r t ih =>
   rw[List.all_cons,Jf] at f;rw[LX,LX,qe r f.1,ih f.2]
def rH {A:Around} {s:MU} {v:MT} (rx:af x v) (fx:gc x=true):∀{xs:List V} {us:List MT},aV xs us->xs.all gc=true->∀u∈us,SeqAt.EqAt A s u v (gT x u):=by
 intro xs us h f
 induction h with
 | nil=>intro u hu; cases hu
 | cons r t ih =>
   intro u' hu;rw[List.all_cons,Jf] at f;rcases JS.mp hu with rfl|hu
   . rw[qe r f.1]; exact D4 r rx f.1 fx
   . exact ih f.2 u' hu
abbrev fP (x:V) (xs:List V):Bool:=xs.any λy=>fE y x
abbrev rIn (K:MW) (neg:Bool):R2:=λx y H Q=>∃p xs,y=↥p/\(aH K H p xs\/aJ K H p xs)/\gc x=true/\xs.all gc=true/\Q (.bl (if neg then !fP x xs else fP x xs)) H
def ju:bc X (compareOp .In) (rIn X.K false):=by
 intro pins s σ H x y v u Q I rx ry h;let#[p,xs,rfl,hq,fx,fs,q]:=h;cases ry;rcases hq with hq|hq
 . let#[its,r,pl,hz]:=I.list hq;refine SeqAt.in_listAt (gT x) pl.isList (λw hw=>rH rx fx r fs w ↑hw) #[.bl _,H,I,rfl,?_];rw[show its.toArray.any (gT x)=its.any (gT x) by simp,xE r fs];exact q
 . let#[its,r,pl,hz]:=I.tuple hq;refine SeqAt.in_tupleAt (gT x) pl (λw hw=>rH rx fx r fs w ↑hw) #[.bl _,H,I,rfl,?_];rw[show its.toArray.any (gT x)=its.any (gT x) by simp,xE r fs];exact q
def rL:ay X (.builtin "len") (λxs H Q=>∃p ys,xs=[↥p]/\(aH X.K H p ys\/aJ X.K H p ys)/\Q (.int ys.length) H):=by
 intro pins s σ H xs us Q I r h;let#[p,ys,rfl,hq,q]:=h;let#[u,rfl,rx]:=gu r;cases rx;have hn:=jf;rcases hq with hq|hq
 . let#[its,r',pl,hz]:=I.list hq;have hlen:=r'.length;exact Calls.call_len_list pl.isList (by simp only[JV] <;> lia) #[.int ys.length,H,I.tok _,#[s.toks+1,by rw[JV,hlen]],q]
 . let#[its,r',pl,hz]:=I.tuple hq;have hlen:=r'.length;exact len_tuple pl (by simp only[JV] <;> lia) #[.int ys.length,H,I.tok _,#[s.toks+1,by rw[JV,hlen]],q]
def yx:ay X (.builtin "len") (λxs H Q=>∃z,xs=[.str z]/\z.length<=sizeLine/\Q (.int z.length) H):=by intro pins s σ H xs us Q I r h;let#[z,rfl,hz,q]:=h;let#[u,rfl,t,rfl]:=gu r;have hn:=jf;exact len_str ∅ #[.int z.length,H,I.tok _,#[5],q]
def lI:ay X (.type "list") (λxs H Q=>∃p ys,xs=[↥p]/\(aH X.K H p ys\/aJ X.K H p ys)/\∀l,H l=none->Q ↥l (upd H l (.lst ys))):=by
 intro pins s σ H xs us Q I r h;let#[p,ys,rfl,hq,q]:=h;let#[u,rfl,rx]:=gu r;cases rx;have fin:∀(its:List MT),aV ys its->ys.length<=sizeLine->∀(h':Heap) (c':Nat),(∀b o',s.heap.get? b=⇑o'->h'.get? b=⇑o') ->
     h'.get? s.heap.objs.size=some { cls:=.type "list",dict:=none,data:=.seq its.toArray c',slots:=(List.toArray []) }->EP X pins σ Q ↥s.heap.objs.size { s with heap:=h' }:=λits r' hz h' c' kp e =>
   #[↥s.heap.objs.size,_,I.laid (t':=s.toks) kp (JG _) (show cM X.prog X.w _ h' _ (.lst ys) from#[hz,its,c',r',e]),rfl,q _ (I.hok.fresh (JG _))]
 rcases hq with hq|hq
 . let#[its,r',pl,hz]:=I.list hq;have hlen:=r'.length;let#[o,ho,hc,n,hd]:=pl.isList;exact call_list_seq p (.inl rfl) ho hc hd (λh' c' kp e=>fin its r' hz h' c' kp e) (by simp only[JV] <;> lia)
 . let#[its,r',pl,hz]:=I.tuple hq;have hlen:=r'.length;let#[o,ho,hc,n,hd]:=pl;exact call_list_seq p (.inr rfl) ho hc hd (λh' c' kp e=>fin its r' hz h' c' kp e) (by simp only[JV] <;> lia)
def jr:ay X (.type "tuple") (λxs H Q=>∃p ys,xs=[↥p]/\((aH X.K H p ys/\∀l,H l=none->Q ↥l (upd H l (.tup ys)))\/(aJ X.K H p ys/\Q ↥p H))):=by
 intro pins s σ H xs us Q I r h;let#[p,ys,rfl,h]:=h;let#[u,rfl,rx]:=gu r;cases rx;rcases h with⟨hq,q⟩|⟨hq,q⟩
 . let#[its,r',pl,hz]:=I.list hq;have hlen:=r'.length;refine call_tuple_list pl.isList (λh' kp=>?_) (by simp only[JV] <;> lia);have I1:Inv X pins σ H { s with heap:=h' }:=I.kept (t':=s.toks) kp;have I2:Inv X pins σ (upd H h'.objs.size (.tup ys)) { s with heap:=h'.push { cls:=.type "tuple",data:=.seq its.toArray } } :=
     I1.laid (t':=s.toks) (λb o e=>JD _ e) (JG _) (show cM X.prog X.w _ _ _ (.tup ys) from#[hz,its,r',IsTup.new _ _])
   show#[↥h'.objs.size,_,I2,rfl,q _ (I1.hok.fresh (JG _))]
 . let#[its,r',pl,hz]:=I.tuple hq;exact call_tuple_same pl #[↥p,H,I,rfl,q]
abbrev qp (K:MW) (T:String) (x:V) (H:Hp):Prop:=match x with
 | .str _=>T="str"
 | .int _=>T="int"
 | .ref p=>(T="list"/\∃xs,aH K H p xs)\/(T="tuple"/\∃o,K.lookup p=⇑o/\o.cls=.type "tuple"/\o.dict=none) \/
     (T="dict"/\((∃kvs,H p=⇑(.dK kvs))\/∃kvs,H p=⇑(.dT kvs)))\/(T="set"/\∃S n,H p=⇑(.set S n))
 | _=>False
def yz {pins:List (MV×Obj)} {σ:St} {H:Hp} {s:MU} {T:String} {v:MT} (I:Inv X pins σ H s) (r:af x v) (ty:qp X.K T x H) :
   s.TypeIs v T/\∀a,v=↥a->∃ob,s.heap.get? a=⇑ob/\ob.dict=none:=by
 cases x with
 | str z =>
   let#[t,rfl]:=r;cases (show T="str" from ty);show#[typeIs_str s z t,λ_ e=>nomatch e]
 | int i =>
   let#[t,rfl]:=r;cases (show T="int" from ty);show#[typeIs_int s i t,λ_ e=>nomatch e]
 | ref p =>
   cases r;rcases ty with⟨rfl,xs,hq⟩|⟨rfl,o,hk,hc,hd⟩|⟨rfl,hk⟩|⟨rfl,S,n,hk⟩
   . let#[its,_,pl,_]:=I.list hq;show#[pl.isList.typeIs,λa e=>?_];cases e;let#[o,n,e,c,hd,_]:=pl;show#[o,e,hd]
   . show#[#[o,I.kIn p o hk,hc],λa e=>?_];cases e;show#[o,I.kIn _ o hk,hd]
   . have z:∃o,s.heap.get? p=⇑o/\o.ExactDict:=by
       rcases hk with⟨kvs,hk⟩|⟨kvs,hk⟩
       . let#[_,_,_,_,o,_,_,e,ex,_]:=I.hok p _ hk;show#[o,e,ex]
       . let#[_,_,_,_,o,_,_,e,ex,_]:=I.hok p _ hk;show#[o,e,ex]
     let#[o,e,ex]:=z;show#[#[o,e,ex.1],λa e2=>?_];cases e2;show#[o,e,ex.2.1]
   . let#[o,_,_,_,e,ex,_]:=I.hok p _ hk;show#[#[o,e,ex.1],λa e2=>?_];cases e2;show#[o,e,ex.2.1]
 | _=>exact False.elim ty
abbrev BY (K:MW) (T:String) (r:V->List V->Hp->VK->Prop) (to:TE):TE:=λσ H Q=>to σ H λx H1=>qp K T x H1/\r x [] H1 Q
abbrev tBM (K:MW) (T:String) (r:V->List V->Hp->VK->Prop) (to:TE) (t:TA):TE:=λσ H Q=>to σ H λx H1=>qp K T x H1/\t σ H1 λxs H2=>r x xs H2 Q
variable {o e:Expr} {es:List Expr} {to:TE} {t:TA} {name:Str} {apos cpos:Pos} {T id:String} {r:V->List V->Hp->VK->Prop}
def qx (pa:PlainAttrs T) (slot:Slot T name id) (hty:typeOf (.builtin id)=pure (.type "method_descriptor")) (hm:nQ X id r) (ho:PE X o to)
   (hbase:attributeBase o name X.env (eval o X.env)=eval o X.env:=by rfl) (hline:(apos.endLine==cpos.line)=true:=by rfl):PE X (.Call (.Attribute o name apos) [] [] cpos) (BY X.K T r to):=by
 intro pins s σ H Q I h;refine ME hbase hline (aQ (ho pins s σ H _ I h) λv s1 z88_=>?_);let#[x,H1,I1,r1,ty,q1]:=z88_;let#[h1,h2]:=yz I1 r1 ty;show#[T,id,pa,slot,hty,h1,h2,Calls.callWith_builtin rfl (PySem.evalArgs_none (hm pins s1 σ H1 x [] v [] Q I1 r1 .nil q1))]
def bu (pa:PlainAttrs T) (slot:Slot T name id) (hty:typeOf (.builtin id)=pure (.type "method_descriptor")) (hm:nQ X id r) (ho:PE X o to) (ha:PA X (e::es) t)
   (hbase:attributeBase o name X.env (eval o X.env)=eval o X.env:=by rfl)
   (hfew:((backTo cpos (starEach (e::es) X.env)).all (λx=>!x.1)&&(backToKw cpos (keywordEach [] X.env)).all (λx=>x.1.isSome)
     && decide ((e::es).length+([]:List Keyword).length+(if([]:List Keyword).isEmpty then 0 else 1)<30))=true:=by rfl)
   (hline:(apos.endLine==cpos.line)=true:=by rfl) (hs:starEach (e::es) X.env=(false,eval e X.env)::starEach es X.env:=by rfl) (hplain:(backTo cpos (starEach es X.env)).any (·.1)=false:=by rfl) :
   PE X (.Call (.Attribute o name apos) (e::es) [] cpos) (tBM X.K T r to t):=by
 intro pins s σ H Q I h;refine wpAny_Call_method_late hbase hfew hline rfl (aQ (ho pins s σ H _ I h) λv s1 z89_=>?_);let#[x,H1,I1,r1,ty,q1]:=z89_;let#[h1,h2]:=yz I1 r1 ty;show#[T,id,pa,slot,hty,h1,h2,?_];have hA:=ha cpos pins s1 σ H1 _ I1 q1;rw[hs] at hA ⊢;refine Calls.callWith_builtin (by show(false || (backTo cpos (starEach es X.env)).any (·.1))=false; rw[hplain] <;> rfl) (Calls.evalArgs_plain ?_);exact aQ hA λus s2 z90_=>by let#[vs,H2,I2,r2,q2]:=z90_; exact hm pins s2 σ H2 x vs v us Q I2 r1 r2 q2
end
abbrev lj (X:Cx) (id:String) (r:V->List V->Hp->VK->Prop):Prop :=
 ∀(pins:List (MV×Obj)) (s:MU) (σ:St) (H:Hp) (x:V) (xs:List V) (v:MT) (us:List MT) (Q:VK),Inv X pins σ H s->af x v->aV xs us->r x xs H Q ->
   wpAny 0x7 X.A (call (.builtin id) (v::us)) (EP X pins σ Q) X.xe s
def aV.one:∀{x:V} {us:List MT},aV [x] us->∃u,us=[u]/\af x u:=by
 intro x us h;cases h with
 | cons r t=>cases t; show#[5,r]
def aV.zero:∀{us:List MT},aV [] us->us=[]
 | _,.nil=>rfl
def aV.dropLast {xs:List V} {us:List MT} (h:aV xs us):aV xs.dropLast us.dropLast:=by
 induction h with
 | nil=>exact .nil
 | cons r t ih =>
   cases t with
   | nil=>exact .nil
   | cons q t'=>exact .cons r ih
def aV.rep {xs:List V} {us:List MT} (h:aV xs us):∀k:Nat,aV (List.replicate k xs).flatten (List.replicate k us).flatten
 | 0=>.nil
 | k+1=>by rw[Kw,Kw,K8,K8];exact aV.append h (aV.rep h k)
def IF {α:Type} (l:List α):l.eraseIdx (l.length - 1)=l.dropLast:=by
 induction l with
 | nil=>rfl
 | cons a r ih =>
   cases r with
   | nil=>rfl
   | cons b r =>
     have e:(a::b::r).length - 1=((b::r).length - 1)+1:=by
       have h1:(a::b::r).length=r.length+2:=rfl;have h2:(b::r).length=r.length+1:=rfl
       lia
     rw[e,List.eraseIdx_cons_succ,ih]
     all_goals rfl
def yw (its:List MT):∀(k:Nat) (acc:List MT),
   List.foldl (λx1 x2=>x1++x2) acc.toArray (List.replicate k its.toArray)=(acc++(List.replicate k its).flatten).toArray
 | 0,acc=>by simp
 | k+1,acc=>by
   have e:acc.toArray++its.toArray=(acc++its).toArray:=by simp
   have e2:(acc++its)++(List.replicate k its).flatten=acc++(List.replicate (k+1) its).flatten:=by rw[Kw,K8,Jl]
   rw[<- e2,<- yw its k (acc++its),<- e,Kw,LF]
section
variable {X:Cx} {pins:List (MV×Obj)} {σ:St} {H:Hp} {s:MU} {l b:MV} {xs ys zs:List V}
def Inv.lset {its its':List MT} {f:Array MT->Array MT} {t':Nat} (I:Inv X pins σ H s) (hH:H l=⇑(.lst xs))
   (e:s.heap.get? l=some { cls:=.type "list",data:=.seq its.toArray n }) (hf:f its.toArray=its'.toArray) (hv:aV ys its') (hz:ys.length<=sizeLine) :
   Inv X pins σ (upd H l (.lst ys)) { s with heap:=s.heap.update l (Obj.mapSeq f),toks:=t' }:=by
 have q:=PySem.IsL.update e f;rw[hf] at q;refine I.write (x:=l) (e:=l) (by rw[hH]; exact trivial) (.inl rfl) (λb' u hb hu=>(K4 s.heap (Obj.mapSeq f) (Ne.symm hb))\hu) #[_,q] ?_;show#[hz,its',_,hv,q]
def Inv.lnew {its:List MT} {t':Nat} (I:Inv X pins σ H s) (hv:aV ys its) (hz:ys.length<=sizeLine) :
   Inv X pins σ (upd H s.heap.objs.size (.lst ys)) { s with heap:=s.heap.push { cls:=.type "list",data:=.seq its.toArray },toks:=t' } :=
 I.laid (λ_ _ q=>JD _ q) (JG _) #[hz,its,(0),hv,Ja _ rfl]
def Inv.fresh (I:Inv X pins σ H s):H s.heap.objs.size=none:=I.hok.fresh (JG _)
def Inv.lstM (I:Inv X pins σ H s) (hH:H l=⇑(.lst xs)):xs.length<=sizeLine/\∃(its:List MT) (n:Nat),aV xs its/\xs.length=its.length/\s.heap.get? l=some { cls:=.type "list",data:=.seq its.toArray n }:=by let#[z,its,n,r,e]:=I.hok l _ hH;show#[z,its,n,r,r.length,e]
def uW (h:n<=sizeLine):Builtin.List.listTooLong n=false:=by unfold Builtin.List.listTooLong;exact J' ∅
end
section
variable {X:Cx}
abbrev Ey:V->List V->Hp->VK->Prop:=λx vs H Q=>∃l xs y,x=↥l/\vs=[y]/\H l=⇑(.lst xs)/\xs.length<sizeLine/\Q .non (upd H l (.lst (xs++[y])))
def ja:lj X "list.append" Ey:=by
 intro pins s σ H x vs v us Q I rx rv h;let#[l,xs,y,rfl,rfl,hH,hz,q]:=h;cases rx;let#[u,rfl,ru]:=rv.one;let#[z,its,n,r,hl,e]:=I.lstM hH;refine call_meets F.slot_list_append #[_,e,rfl] F.entry_list_append (F.args_list_append_2 _ _) (PySem.list_append l its.toArray n u (by rw[JV]; lia)) #[e,?_];show#[.non,_,I.lset (its':=its++[u]) hH e 0xB (r.append (.cons ru .nil)) ?_,rfl,q];rw[JE,List.length_singleton]
 lia
abbrev Dj:V->List V->Hp->VK->Prop:=λx vs H Q=>∃l b xs zs,x=↥l/\vs=[↥b]/\H l=⇑(.lst xs)/\H b=⇑(.lst zs)/\xs.length+zs.length<=sizeLine/\Q .non (upd H l (.lst (xs++zs)))
def BJ:lj X "list.extend" Dj:=by
 intro pins s σ H x vs v us Q I rx rv h;let#[l,b,xs,zs,rfl,rfl,hH,hB,hz,q]:=h;cases rx;let#[u,rfl,ru]:=rv.one;cases ru;let#[z,its,n,r,hl,e]:=I.lstM hH;let#[z2,its2,n2,r2,hl2,e2]:=I.lstM hB;have hsz:its.toArray.size+its2.toArray.size<=sizeLine:=by rw[JV,JV]; lia
 have hlong:¬ (!its.toArray.isEmpty&&Builtin.List.listTooLong (its.toArray.size+its2.toArray.size))=true:=by rw[uW hsz,LO];exact JP
 refine call_meets F.slot_list_extend #[_,e,rfl] F.entry_list_extend (F.args_list_extend_2 _ _)
   (AutoSeq1.list_extend_list_list_0 l its.toArray n b its2.toArray n2 hlong (by rw[JV]; lia) ∅) #[e,e2,?_]
 show#[.non,_,I.lset (its':=its++its2) hH e 0xB (r.append r2) ?_,rfl,q];rw[JE]
 lia
abbrev BA:V->List V->Hp->VK->Prop:=λx vs H Q=>∃l xs y,x=↥l/\vs=[]/\H l=⇑(.lst xs)/\xs[xs.length - 1]?=⇑y/\Q y (upd H l (.lst xs.dropLast))
def Io:lj X "list.pop" BA:=by
 intro pins s σ H x vs v us Q I rx rv h;let#[l,xs,y,rfl,rfl,hH,hy,q]:=h;cases rx;have hus:=rv.zero;subst hus;let#[z,its,n,r,hl,e]:=I.lstM hH;let#[u,hu,ru]:=r.get hy;have hy':its.toArray[its.toArray.size - 1]?=⇑u:=by show its.toArray[its.length - 1]?=⇑u;rw[<- Array.getElem?_toList,<- hl];exact hu
 refine call_meets F.slot_list_pop #[_,e,rfl] F.entry_list_pop (F.args_list_pop_1 _) (MeetsSeq.list_pop_last l its.toArray n u hy' (by rw[JV]; lia)) #[e,?_];show#[y,_,I.lset (its':=its.dropLast) hH e ?_ r.dropLast ?_,ru,q]
 . show its.toArray.eraseIdxIfInBounds (its.toArray.size - 1)=its.dropLast.toArray;rw[JV,List.eraseIdxIfInBounds_toArray,IF]
 . rw[List.length_dropLast]
   lia
abbrev Cs:V->List V->Hp->VK->Prop:=λx vs H Q=>∃l xs,x=↥l/\vs=[]/\H l=⇑(.lst xs)/\Q .non (upd H l (.lst []))
def xX:lj X "list.clear" Cs:=by intro pins s σ H x vs v us Q I rx rv h;let#[l,xs,rfl,rfl,hH,q]:=h;cases rx;have hus:=rv.zero;subst hus;let#[z,its,n,r,hl,e]:=I.lstM hH;refine call_meets F.slot_list_clear #[_,e,rfl] F.entry_list_clear (F.args_list_clear_1 _) (AutoSeq1.list_clear_list_0 l its.toArray n (by rw[JV]; lia)) #[e,?_];show#[.non,_,I.lset (its':=[]) (ys:=[]) hH e rfl .nil (Jd _),rfl,q]
abbrev G7:R2:=λx y H Q=>∃l b xs zs,x=↥l/\y=↥b/\H l=⇑(.lst xs)/\H b=⇑(.lst zs)/\xs.length+zs.length<=sizeLine/\∀p,H p=none->Q ↥p (upd H p (.lst (xs++zs)))
def lg:bc X (binaryOp .Add) G7:=by
 intro pins s σ H x y v u Q I rx ry h;let#[l,b,xs,zs,rfl,rfl,hH,hB,hz,q]:=h;cases rx;cases ry;let#[z,its,n,r,hl,e]:=I.lstM hH;let#[z2,its2,n2,r2,hl2,e2]:=I.lstM hB;refine PySem.P.add_list e e2 ?_ (by rw[JV,JV]; lia);have ea:its.toArray++its2.toArray=(its++its2).toArray:=by simp
 rw[ea];show#[↥_,_,I.lnew (t':=s.toks) (r.append r2) (by rw[JE]; lia),rfl,q _ I.fresh]
abbrev EH:R2:=λx y H Q=>∃l k xs,x=↥l/\y=.int k/\H l=⇑(.lst xs)/\-(2 ^ 63)<=k/\k<2 ^ 63/\xs.length * k.toNat<=sizeLine /\
 ∀p,H p=none->Q ↥p (upd H p (.lst (List.replicate k.toNat xs).flatten))
def jz {α:Type} (xs:List α) (k:Nat):(List.replicate k xs).flatten.length=k * xs.length:=by
 induction k with
 | zero=>simp
 | succ k ih=>rw[Kw,K8,JE,ih,Nat.succ_mul,Nat.add_comm]
def sJ:bc X (binaryOp .Mult) EH:=by
 intro pins s σ H x y v u Q I rx ry h;let#[l,k,xs,rfl,rfl,hH,h1,h2,hz,q]:=h;cases rx;let#[t,rfl]:=ry;let#[z,its,n,r,hl,e]:=I.lstM hH;have hlen:its.toArray.size * k.toNat<=sizeLine:=by rw[JV,<- hl]; exact hz
 have hcap:¬ its.toArray.size * k.toNat > (2 ^ 63 - 1) / 8:=by
   have:(sizeLine:Nat)<=(2 ^ 63 - 1) / 8:=by decide
   lia
 have hfit:¬ (!Builtin.List.listFitsIndex k)=true:=by rw[fitsIndex_both h1 h2];exact JP
 have hlong:¬ Builtin.List.listTooLong (its.toArray.size * k.toNat)=true:=by rw[uW hlen];exact JP
 have hnew:List.foldl (λx1 x2=>x1++x2) (List.toArray []) (List.replicate (if its.toArray.isEmpty=true then 0 else k.toNat) its.toArray)=(List.replicate k.toNat its).flatten.toArray:=by
   have f0:∀m:Nat,List.foldl (λx1 x2=>x1++x2) (List.toArray []) (List.replicate m its.toArray)=(List.replicate m its).flatten.toArray:=λm=>by have:=yw its m [];rw[MN] at this;exact this
   rw[f0];cases its with
   | nil=>simp
   | cons a r'=>rw[JI 0xB]
 refine wpAny_binaryOp_repeat_ref (T:="list") (U:="int") #[] #[_,e,rfl] (λs'=>typeIs_int s' k t) noFill_list_mul F.fills_int_mul F.slot_int_rmul repeat_list F.slot_int_index.lookup
   (call_meets F.slot_int_rmul (typeIs_int s k t) F.entry_int_rmul (F.args_int_rmul_2 _ _) (int___rmul___int_list k t l its.toArray n)
     #[e,rfl,#[_,e,rfl],call_meets F.slot_list_mul #[_,e,rfl] F.entry_list_mul (F.args_list_mul_2 _ _) (AutoListH.list___mul___list_int_3 l its.toArray n k t hfit hcap hlong) #[e,?_]])
 rw[hnew];show#[↥_,_,I.lnew (t':=s.toks) (r.rep k.toNat) (by rw[jz,M6]; exact hz),rfl,q _ I.fresh]
end
end L2
namespace Att
open PySem PySem.W PySem.Calls PyProof.Rows
def DQ {P:Params} {h:Heap}:∀(ns:List Int) (vs:List MT),WellAll P h vs (ns.map WData.int)->IntsAre vs ns:=by
 intro ns
 induction ns with
 | nil =>
   intro vs w;rw[M7] at w;cases w;exact .nil
 | cons n ns ih =>
   intro vs w;rw[Jv] at w;cases w with
   | cons a b =>
     cases a;exact .cons _ _ (ih _ b)
def FK {l:OpenLaw} {n:Nat} (hn:l.most=⇑n) {P:Params} {h:Heap} {args:List WData} {vals:List MT}
   (hpre:l.row.toRowW.claim.pre args=true) (hwl:WellAll P h vals args) :
   ∃a vs ns,vals=[Value.ref a]/\args=[WData.list (ns.map WData.int)]/\h.get? a=some { cls:=.type "list",data:=.seq vs.toArray }/\IntsAre vs ns/\ns.length<=n:=by
 have qW:WShape.hasAll [] args [.list .int]=true:=(pre_splitW hpre).1;have hc:l.pre.holds [] { args:=args }=true:=(pre_splitW hpre).2;let#[d,r,rfl,h1,h2]:=hasAllW_cons qW;obtain rfl:=hasAllW_nil h2;let#[xs,rfl,h3]:=hasW_list h1;let#[ns,rfl]:=items_int h3;have hlen:ns.length<=n:=by
   unfold OpenLaw.pre at hc;have h4:(WTm.not (.lt (.lit (.int (n:Int))) (.len (.arg 0)))).holds [] { args:=[.list (ns.map .int)] }=true:=by have h4:=(holds_andW hc).1;rw[hn] at h4;exact h4
   have h5:=condW_of h4 (w_not (w_lt w_lit (w_len_list (w_arg rfl))));rw[J7] at h5;refine Nat.le_of_not_lt λq=>?_;have q':(n:Int)<((ns.length:Nat):Int):=by lia
   first
     | (rw[Jg q'] at h5; exact absurd h5 #[])
     | (simp at h5; lia)
 cases hwl with
 | cons w1 w2 =>
   cases w2;cases w1 with
   | list ho hall=>show#[4,ns,7,ho,DQ ns _ hall,hlen]
def Hn (l:OpenLaw) (args:List WData):l.row.toRowW.claim.post args (.bool true) args=true :=
 postW_of (r:=l.row.toRowW) (X:=(true==true))
   (show WShape.has [] (.bool true) .bool=true by first|rfl|decide|simp [WShape.has,WShape.arms,WShape.armsAll])
   (show(WTm.eq .res (.lit (.bool true))).value [] { args:=args,res:=⇑(.bool true),after:=args }=⇑(.bool (true==true)) from w_eq_bool (w_res rfl) w_lit) rfl
def attach_call {l:OpenLaw} {n:Nat} {q:Program} {loose:List Str} {XP:(Str->JM MT)->Heap->Prop} {YP:World->Heap->Prop} {d:DefRec}
   (hn:l.most=⇑n) (hdf:d.params.defaults=[])
   (call:∀(w:World) (s₀ s₁:MU) (mg mb:Str->JM MT) (fa:MV) (o:Obj) (pm cd doc:MT) (a:MV) (vs:List MT) (ns:List Int),
     Ground q loose [] XP w s₀ mg mb s₁.heap->YP w s₁.heap ->
     s₁.heap.get? fa=⇑o->o.data=.func (docDef d.name d.params d.body d.scope pm cd doc)->s₁.heap.CodeRec cd d.name->mg d.name=⇑↥fa ->
     s₁.heap.get? a=some { cls:=.type "list",data:=.seq vs.toArray }->IntsAre vs ns->ns.length<=n->s₁.gens=(List.toArray []) ->
     codeAny (model l.prog w) callerA (.call ↥fa #[[↥a],[]]) (λr s'=>r=.ok (.ret (.bool true))/\OldK s₁.heap s'.heap/\s'.os=s₁.os/\AllBare s'.gens) s₁) :
   WalkO q loose XP YP l.row.toRowW d [] (λf vs=>PySem.call f vs):=by
 intro w s₀ s₁ mg mb G Y fa o pm cd doc dV kV ho hd hcd hD hmg hg args vals as hpre hlay hrd hwl hlo;obtain rfl:dV=.none:=Dflts.none hD hdf;obtain rfl:kV=.none:=Dflts.noKw hD;let#[a,vs,ns,rfl,rfl,hobj,hints,hlen]:=FK hn hpre hwl;refine enter_call (M4 (call w s₀ s₁ mg mb fa o pm cd doc a vs ns G Y ho (fd_plain hd) hcd hmg hobj hints hlen hg) λr s' hq=>?_);let#[rfl,h2,h3,h4]:=hq;show#[.inl #[.bool true,.bool true,[],rfl,λ_=>rfl,.bool true,Hn l _,λ_=>#[List.Pairwise.nil,λ_ hm=>(nomatch hm)]],h2,h3,h4]
end Att
namespace L2
open PySem PySem.Spec PyProof.Rows
def Ik:∀{vs:List MT} {ns:List Int},IntsAre vs ns->aV (ns.map V.int) vs:=by
 intro vs ns h
 induction h with
 | nil=>exact .nil
 | cons n t h ih=>exact .cons #[t,rfl] ih
abbrev nA (H:Hp):Prop:=∀b,H b=none\/∃o xs,H b=⇑(.frz o (.lst xs))
variable {x:Str}
def CN {P:Program} {w:World} {K:MW} {mg mb:Str->JM MT} {CX:g7} {k:Nat} {fa a:MV} {fd:FuncData} {sp:Sp} {s₁:MU} {vs:List MT} {ns:List Int}
   (KX:K.In s₁.heap) (hns:s₁.heap.Ns mainGlobals mg) (hb:s₁.heap.Ns builtinsNs mb) (hbb:∀x:Str,x≠"__name__"->mb x=bootBuiltins x) (hlim:s₁.heap.NoLimit) (hg:s₁.gens=(List.toArray []))
   (ha:s₁.heap.get? a=some { cls:=.type "list",data:=.seq vs.toArray }) (hi:IntsAre vs ns) (hl:ns.length<=sizeLine) (hr:Room k callerA)
   (F:∀base:Heap,K.In base->base.Ns mainGlobals mg->FnOk P w K mg base CX k fa fd [x] sp) (hbind:∀(s:MU) (u:MT),BindsTo s fd #[[u],[]] [(x,u)])
   (hsp:∀H:Hp,nA H->aH K H a (ns.map V.int)->sp [↥a] H (λv _=>v=.bl true) λ_ _ _=>False)
   (hCX:∀H e s',CX [] H s₁ (λ_ _ _=>False) e s'->False) :
   codeAny (model P w) callerA (.call ↥fa #[[↥a],[]]) (λr s'=>r=.ok (.ret (.bool true))/\OldK s₁.heap s'.heap/\s'.os=s₁.os/\AllBare s'.gens) s₁:=by
 have rv:=Ik hi;have lenV:=hi.length
 -- from an abstract heap in which nothing but the script may be tracked
 have core:∀H:Hp,nA H->aH K H a (ns.map V.int)->bU P w H s₁.heap->(∀b,H b≠none->b=a)->(H a≠none->K.lookup a=none) ->
     codeAny (model P w) callerA (.call ↥fa #[[↥a],[]]) (λr s'=>r=.ok (.ret (.bool true))/\OldK s₁.heap s'.heap/\s'.os=s₁.os/\AllBare s'.gens) s₁:=by
   intro H hO hS hok hA hK;have base_of:∀{b:MV} {o:Obj},s₁.heap.get? b=⇑o->H b=none->(iF s₁.heap H).get? b=⇑o:=λe n=>BD e n;have noA:∀{b:MV} {o:Obj} {es:Array DictEntry} {ep:Nat},s₁.heap.get? b=⇑o->o.data=.dict es ep->H b=none:=λ{b o es ep} e d=>by
     cases q:H b with
     | none=>rfl
     | some u =>
       have e':b=a:=hA b (by rw[q]; simp);subst e';rw[ha] at e; cases e;have d':Data.seq vs.toArray _=Data.dict es ep:=d;cases d'
   have nsK:∀{b:MV} {m:Str->JM MT},s₁.heap.Ns b m->(iF s₁.heap H).Ns b m:=λ{b m} z93_=>by let#[o,es,ep,e,d,r]:=z93_; show#[o,es,ep,base_of e (noA e d),d,r]
   have hKb:K.In (iF s₁.heap H):=λb o e=>base_of (KX b o e) (by
     cases q:H b with
     | none=>rfl
     | some u =>
       have e':b=a:=hA b (by rw[q]; simp);subst e';rw[hK (by rw[q]; simp)] at e; cases e)
   have hM:Mod K mg (iF s₁.heap H):=#[hKb,nsK hns,#[mb,nsK hb,hbb],by let#[mc,h1,h2]:=hlim; show#[mc,nsK h1,h2]]
   have e0:Env0 P w K mg (iF s₁.heap H) callerA [] s₁ H:=#[rfl,hM,λb o e=>Bw e,Nat.le_of_eq (CW _ _),trivial,λb hb=>absurd (show b∈([]:List MV) from hb) 0xB,hok,.of_eq hg]
   refine M4 ((F _ hKb (nsK hns)).run callerA [] s₁ H #[[↥a],[]] [↥a] [↥a] _ _ hr e0 (hbind s₁ ↥a) (.cons rfl .nil) (hsp H hO hS)) λr s' h=>?_;cases r with
   | error e=>exact(hCX H e s' h).elim
   | ok fl =>
     cases fl with
     | next=>exact False.elim h
     | brk=>exact False.elim h
     | cont=>exact False.elim h
     | ret u =>
       let#[v,H',os,bare,un,hok',r',q]:=h;have q':v=.bl true:=q;subst q';obtain rfl:u=Value.bool true:=r';show#[rfl,OldK.of_keep λb o e=>?_,os,bare];cases q:H b with
       | none=>exact un.keep b o e q (by intro z; exact absurd (show b∈([]:List MV) from z) 0xB) 0xB
       | some u =>
         rcases hO b with z|⟨ob,xs,z⟩
         . rw[q] at z; cases z
         . have z2:=un.frzs b ob _ z;let#[e1,_]:=hok b _ z;let#[e2,_]:=hok' b _ z2;rw[e] at e1; cases e1;exact e2
 cases hk:K.lookup a with
 | some o =>
   -- the script is one of the module's own objects
   have e:=KX a o hk;rw[ha] at e;cases e;refine core (λ_=>none) (λ_=>.inl rfl) (.inr #[_,vs.toArray,_,hk,15,by rw[JV,lenV]; exact hl,by simpa using rv]) (λb u z=>by have z':(none:JM HO)=⇑u:=z; cases z') (λb z=>absurd rfl z) λz=>absurd rfl z
 | none =>
   refine core (λb=>if b=a then ⇑(.frz { cls:=.type "list",data:=.seq vs.toArray } (.lst (ns.map V.int))) else none) (λb=>?_) (.inl (.inr #[{ cls:=.type "list",data:=.seq vs.toArray },JJ rfl])) (λb u z=>?_) (λb z=>?_) λ_=>hk
   . by_cases hb:b=a
     . exact .inr #[4,JJ hb]
     . exact .inl (JI hb)
   . by_cases hb:b=a
     . have z':=(JJ hb).symm.trans z;cases z';subst hb;show#[ha,by rw[J7]; exact hl,vs,_,rv,ha]
     . have z':=(JI hb).symm.trans z;cases z'
   . by_cases hb:b=a
     . exact hb
     . exact absurd (JI hb) z
noncomputable abbrev KOf {K:MW} {h:Heap} (_:K.In h):MW:=K
def Bi {l:PySem.W.OpenLaw} {n k:Nat} {q:Program} {loose:List Str} {XP:(Str->JM MT)->Heap->Prop} {YP:World->Heap->Prop} {d:DefRec} {K:Params->MW} {CX:World->g7} {sp:World->Sp} 
   (hn:l.most=⇑n) (hn2:n<=sizeLine) (hdf:d.params.defaults=[]) (hr:Room k callerA)
   (hY:∀(w:World) (h:Heap),YP w h->(K w.params).In h)
   (F:∀(w:World) (mg:Str->JM MT) (fa:MV) (h:Heap),(K w.params).In h->h.Ns mainGlobals mg->mg d.name=⇑↥fa ->
     ∃fd:FuncData,(∀(s:MU) (u:MT),BindsTo s fd #[[u],[]] [(x,u)]) /\
       ∀base:Heap,(K w.params).In base->base.Ns mainGlobals mg->FnOk l.prog w (K w.params) mg base (CX w) k fa fd [x] (sp w))
   (hsp:∀(w:World) (H:Hp) (a:MV) (ns:List Int),ns.length<=n->nA H->aH (K w.params) H a (ns.map V.int)->sp w [↥a] H (λv _=>v=.bl true) λ_ _ _=>False)
   (hCX:∀(w:World) (H:Hp) (s:MU) (e:MT) (s':MU),CX w [] H s (λ_ _ _=>False) e s'->False) :
   PySem.W.WalkO q loose XP YP l.row.toRowW d [] (λf vs=>PySem.call f vs):=by
 refine Att.attach_call hn hdf λw s₀ s₁ mg mb fa o pm cd doc a vs ns G Y ho hd hcd hmg hobj hints hlen hg=>?_;have KX:=hY w _ Y;let#[fd,hb,hF]:=F w mg fa _ KX G.T.g hmg;exact CN KX G.T.g G.T.b G.T.builtins G.T.nolimit hg hobj hints (Jo hlen hn2) hr hF hb (λH hO hS=>hsp w H a ns hlen hO hS) λH e s'=>hCX w H s₁ e s'
def walk_ofK {l:PySem.W.OpenLaw} {n k:Nat} {q:Program} {loose:List Str} {XP:(Str->JM MT)->Heap->Prop} {YP:World->Heap->Prop} {d:DefRec} {K:Params->MW} {CX:g7} {sp:MW->Sp} 
   (hn:l.most=⇑n) (hn2:n<=sizeLine) (hdf:d.params.defaults=[]) (hr:Room k callerA)
   (hY:∀(w:World) (h:Heap),YP w h->(K w.params).In h)
   (F:∀(w:World) (mg:Str->JM MT) (fa:MV) (h:Heap),(K w.params).In h->h.Ns mainGlobals mg->mg d.name=⇑↥fa ->
     ∃fd:FuncData,(∀(s:MU) (u:MT),BindsTo s fd #[[u],[]] [(x,u)]) /\
       ∀base:Heap,(K w.params).In base->base.Ns mainGlobals mg->FnOk l.prog w (K w.params) mg base CX k fa fd [x] (sp (K w.params)))
   (hsp:∀(K:MW) (H:Hp) (a:MV) (ns:List Int),ns.length<=n->nA H->aH K H a (ns.map V.int)->sp K [↥a] H (λv _=>v=.bl true) λ_ _ _=>False)
   (hCX:∀(H:Hp) (s:MU) (e:MT) (s':MU),CX [] H s (λ_ _ _=>False) e s'->False) :
   PySem.W.WalkO q loose XP YP l.row.toRowW d [] (λf vs=>PySem.call f vs) :=
 Bi (K:=K) (CX:=λ_=>CX) (sp:=λw=>sp (K w.params)) hn hn2 hdf hr hY F (λw H a ns h1 h2 h3=>hsp (K w.params) H a ns h1 h2 h3) λ_ H s e s'=>hCX H s e s'
abbrev gZ (s:Stmt) (j:Nat):Stmt:=match s with
 | .ClassDef _ _ _ body _ _ _ _ _ _ _=>body.getD j (.Pass #[(0),(0),(0),(0)])
 | _=>.Pass #[(0),(0),(0),(0)]
abbrev eg (s:Stmt):Arguments:=match s with
 | .FunctionDef _ a _ _ _ _ _ _ _ _=>a
 | _=>{ posonlyargs:=[],args:=[],vararg:=none,kwonlyargs:=[],kw_defaults:=[],kwarg:=none,defaults:=[] }
abbrev eG (s:Stmt):List Stmt:=match s with
 | .FunctionDef _ _ b _ _ _ _ _ _ _=>b
 | _=>[]
abbrev ai (s:Stmt):Scope:=match s with
 | .FunctionDef _ _ _ _ _ _ sc _ _ _=>sc
 | _=>{ kind:=.function,names:=[],isGenerator:=false,isCoroutine:=false }
noncomputable abbrev CX0:g7:=λ_ _ _ _ _ _=>False
noncomputable abbrev E0:XK:=λ_ _ _=>False
def xq {X:Cx}:fi CX0 X E0:=λ_ _ _ _ _ _ _ h=>h.elim
structure Fun (K:W.Frag) (x qual:Str) (st:Stmt) (f:Addr) (fd:FuncData):Prop where
 ex:∃(oc:Value) (od:Option Addr) (kV doc pm:Value) (an:Option Addr) (cdv ct:Value) (osl:Array (Option Value)),
   fd=PySem.W.fnOf x qual (eg st) (eG st) (ai st) .none kV doc pm an cdv ct/\K.lookup f=⇑#[oc,od,.func fd,osl]/\PySem.W.codeIn K cdv qual=true
 kp:PySem.W.keepIn K ↥f=true
variable {qual:Str}
section
variable {P:Program} {w:World} {K:MW} {mg:Str->JM MT} {base:Heap}
def Fun.ok {st:Stmt} {f:MV} {fd:FuncData} {N ps:List Str} {k:Nat} {sp:Sp} (F:Fun K x qual st f fd) (S:FnScope N ps (ai st)) (len:∀vs H Q E,sp vs H Q E->vs.length=ps.length)
   (hbody:∀(cdv:MT) (A:Around) (outer:List Env) (s:MU) (H:Hp) (vs:List V) (Q:VK) (E:XK),Room k (A.deeper (envOfC qual (ai st) s.heap.objs.size f cdv))->sp vs H Q E ->
     ∃t,dn (bJ CX0 P w K mg base N qual (ai st) f cdv A outer s H E).nox (eG st) t/\t { nx:=λ_ H'=>Q .non H',rt:=Q } (iU N vs) H):FnOk P w K mg base CX0 (k+1) f fd ps sp:=by
 let#[oc,od,kV,doc,pm,an,cdv,ct,osl,rfl,lk,hcd]:=F.ex;refine xB lk hcd S len λA outer s H vs Q E hr hsp=>?_;let#[t,h,q]:=hbody cdv A outer s H vs Q E hr hsp;show#[t,h.nox,q]
def Fun.binds {st:Stmt} {f:MV} {fd:FuncData} {ps:List Str} (F:Fun K x qual st f fd)
   (h:∀(kV doc pm:MT) (an:JM MV) (cdv ct:MT) (us:List MT),us.length=ps.length->bindArgs (PySem.W.fnOf x qual (eg st) (eG st) (ai st) .none kV doc pm an cdv ct) #[us,[]]=pure (ps.zip us)):gH K fd ps []:=by
 let#[oc,od,kV,doc,pm,an,cdv,ct,osl,rfl,lk,hcd]:=F.ex;exact .all (h kV doc pm an cdv ct)
def kW {st:Stmt} {f:MV} {oc:MT} {od an:JM MV} {osl:Array (JM MT)} {kV doc pm cdv ct:MT} (l:K.lookup f=⇑#[oc,od,.func (PySem.W.fnOf x qual (eg st) (eG st) (ai st) .none kV doc pm an cdv ct),osl])
   (c:PySem.W.codeIn K cdv qual=true) (k:PySem.W.keepIn K ↥f=true):Fun K x qual st f (PySem.W.fnOf x qual (eg st) (eG st) (ai st) .none kV doc pm an cdv ct):=#[#[oc,od,kV,doc,pm,an,cdv,ct,osl,rfl,l,c],k]
end
def zE {n:Nat} (h:n<=1000):n<sizeLine:=Nat.lt_of_le_of_lt h #[]
section
variable {X:Cx}
def pv (i:Nat) {pos:Pos} (hN:X.N[i]?=⇑x:=by rfl) (hv:kt X.env.scope x:=by first|exact Or.inl rfl|exact Or.inr 0x0|exact Or.inr (Or.inr rfl)) (hd:(x==("__debug__":Str))=false:=by decide)
   (hcd:(x==("__classdict__":Str))=false:=by decide):PE X (.Name x pos) (um i):=Ed hN hv hd hcd
end
def gS {A B:Prop} (h:B):if false=true then A else B:=by rw[JI JP];exact h
def IT {A B:Prop} (h:A):if true=true then A else B:=by rw[JJ rfl];exact h
def eP {c A B:Prop} [Decidable c] (h1:c->A) (h2:¬ c->B):if c then A else B:=by
 by_cases h:c
 . rw[JJ h];exact h1 h
 . rw[JI h];exact h2 h
abbrev Same (H H':Hp):Prop:=∀b o,H b=⇑o->H' b=⇑o
def Same.refl (H:Hp):Same H H:=λ_ _ h=>h
def Same.trans {H H1 H2:Hp} (a:Same H H1) (b:Same H1 H2):Same H H2:=λc o h=>b c o (a c o h)
def Same.free {H H':Hp} (e:Same H H') {l:MV} (h:H' l=Option.none):H l=Option.none:=by
 cases q:H l with
 | none=>rfl
 | some o =>
   rw[e l o q] at h;cases h
def Same.seq {K:MW} {H H':Hp} {a:MV} {xs:List V} (e:Same H H') (h:aH K H a xs):aH K H' a xs:=by
 rcases h with(h|⟨o,h⟩)|h
 . exact .inl (.inl (e _ _ h))
 . exact .inl (.inr #[o,e _ _ h])
 . exact .inr h
end L2
set_option maxHeartbeats 4000000
namespace L2
open PySem PySem.Spec PyProof.Rows
abbrev dL:List (Str×NameKind)->List (Str×MV)->List (Str×MV)->List (Str×MV)
 | [],_,acc=>acc
 | (n,k)::r,cells,acc=>if k==.free then dL r cells ((n,(cells.lookup n).getD 0)::acc) else dL r cells acc
def vf {env:Env}:∀(names:List (Str×NameKind)) (acc:List (Str×MV)),(∀y∈names,y.2=.free->∃c,env.cells.lookup y.1=⇑c) ->
   (forIn names acc λx r=>(match x with|(name,kind)=>if(kind==NameKind.free)=true then do let a <- cellOf env name; pure (ForInStep.yield ((name,a)::r)) else pure (ForInStep.yield r):Sem (ForInStep (List (Str×MV)))))=(pure (dL names env.cells acc):Sem (List (Str×MV)))
 | [],acc,_=>rfl
 | (n,k)::r,acc,h=>by
   have ih:=λacc=>vf (env:=env) r acc λy hy=>h y (Jc _ hy);rw[MO];unfold dL;cases hk:(k==NameKind.free) with
   | true =>
     let#[c,hc]:=h (n,k) Je ↑hk;have hc:env.cells.lookup n=⇑c:=hc;have e:cellOf env n=pure c:=by unfold cellOf; rw[hc]
     simp only[hk,if_true,e,pure_bind,hc,Option.getD_some];exact ih _
   | false =>
     simp only[hk,Bool.false_eq_true,if_false,pure_bind];exact ih _
variable {scope:Scope}
def ui {env:Env} (h:∀y∈scope.names,y.2=.free->∃c,env.cells.lookup y.1=⇑c):closureFor scope env=pure (dL scope.names env.cells []):=by
 have e:=vf (env:=env) scope.names [] h;unfold closureFor
 first
   | (rw[e]; rfl)
   | (simp only[e]; rfl)
   | exact(Jj (λt=>t >>= λr=>pure r) e)
def nZ {cells:List (Str×MV)}:∀(names:List (Str×NameKind)) (acc:List (Str×MV)),(∀y∈names,y.2=.free->∃c,cells.lookup y.1=⇑c)->(∀x c,acc.lookup x=⇑c->cells.lookup x=⇑c) ->
   ∀x c,(dL names cells acc).lookup x=⇑c->cells.lookup x=⇑c
 | [],acc,_,h2=>h2
 | (n,k)::r,acc,h,h2=>by
   unfold dL;cases hk:(k==NameKind.free) with
   | true =>
     rw[JJ rfl];refine nZ r _ (λy hy=>h y (Jc _ hy)) λx c e=>?_;let#[c',hc]:=h (n,k) Je ↑hk;have hc:cells.lookup n=⇑c':=hc;rw[Kb] at e;cases hx:x==n with
     | true =>
       have hx':x=n:=↑hx
       rw[hx] at e;rw[hx',hc];simpa [hc] using e
     | false =>
       rw[hx] at e;exact h2 x c e
   | false =>
     rw[JI 0xB];exact nZ r _ (λy hy=>h y (Jc _ hy)) h2
def qu {cells:List (Str×MV)} {x:Str}:∀(names:List (Str×NameKind)) (acc:List (Str×MV)),(acc.lookup x).isSome=true->((dL names cells acc).lookup x).isSome=true
 | [],_,h=>h
 | (n,k)::r,acc,h=>by
   unfold dL;split
   . refine qu r _ ?_;rw[Kb];cases x==n <;> simp [h]
   . exact qu r _ h
def mm {cells:List (Str×MV)} {x:Str}:∀(names:List (Str×NameKind)) (acc:List (Str×MV)),(x,NameKind.free)∈names->((dL names cells acc).lookup x).isSome=true
 | (n,k)::r,acc,h=>by
   unfold dL;rcases JS.mp h with e|e
   . cases e;rw[JJ 0x1];exact qu r _ (by rw[Kb]; simp)
   . split
     . exact mm r _ e
     . exact mm r _ e
abbrev cB (X:Cx) (N':List Str) (scope:Scope) (C:MV) (s:MU) (H:Hp) (fp:List MV):Cx :=
 { X with N:=N',s₀:=s,H₀:=H,env:=compEnvC scope (dL scope.names X.env.cells []) C X.env,outer:=X.stack,stack:=X.stack,ex:=fp,fn:=λ_=>false,pn:=[],xe:=λ_ _=>False }
abbrev cC (js:List (JM Nat)) (σ:St):St:=js.map λo=>o.bind λj=>(σ[j]?).join
abbrev jJ (scope osc:Scope) (N' N:List Str) (js:List (JM Nat)):Bool :=
 (scope.kind==.function)&&(scope.names.all λy=>y.2 != .cell&&(if y.2==.local then scope.names.lookup y.1==some .local else true) &&
   (if y.2==.free then osc.names.lookup y.1==some .cell || osc.names.lookup y.1==some .free else true)) &&
 js.length==N'.length&&((js.zip N').all λq=>match q.1 with
   | none=>true
   | some j=>N[j]?==⇑q.2&&(osc.names.lookup q.2==some .cell || osc.names.lookup q.2==some .free)&&scope.names.lookup q.2==some .free)
structure CompOk (scope osc:Scope) (N' N:List Str) (js:List (Option Nat)):Prop where
 kind:scope.kind=.function
 nocell:∀y∈scope.names,y.2≠.cell
 names:∀y∈scope.names,y.2=.local->scope.names.lookup y.1=some .local
 free:∀y∈scope.names,y.2=.free->osc.names.lookup y.1=some .cell\/osc.names.lookup y.1=some .free
 len:js.length=N'.length
 slots:∀(i j:Nat) (x:Str),js[i]?=⇑⇑j->N'[i]?=⇑x->N[j]?=⇑x/\(osc.names.lookup x=some .cell\/osc.names.lookup x=some .free)/\scope.names.lookup x=some .free
variable {N':List Str} {js:List (JM Nat)}
def ud {osc:Scope}{N:List Str}(h:jJ scope osc N' N js=true):CompOk scope osc N' N js:=by
 unfold jJ at h;rw[Jf,Jf,Jf,Ku,Ku] at h;obtain⟨⟨⟨h1,h2⟩,h3⟩,h4⟩:=h;show#[by cases hk:scope.kind <;> first|rfl|(rw[hk] at h1; cases h1),λy hy e=>?_,λy hy e=>?_,λy hy e=>?_,by simpa using h3,λi j x e1 e2=>?_]
 . have q:=h2 y hy;rw[e] at q;simp at q
 . have q:=h2 y hy;rw[Jf,Jf] at q;have q2:=q.1.2;rw[e] at q2;simpa using q2
 . have q:=h2 y hy;rw[Jf,Jf] at q;have q2:=q.2;rw[e] at q2;simpa using q2
 . have hm:(⇑j,x)∈js.zip N':=by refine J9 (i:=i) ?_;rw[List.getElem?_zip_eq_some];show#[e1,e2]
   have q:=h4 _ hm;simp only[Jf,MP,LP] at q;show#[q.1.1,q.1.2,q.2]
def tj {env:Env}:∀(names:List (Str×NameKind)) (x:Str),names.lookup x=some .free ->
   ((names.map λ(n,k)=>if(k==NameKind.free&&env.scope.kind==.function&&env.kindOf n==some .cell) then(n,NameKind.cell) else(n,k)).lookup x=some .cell \/
     (names.map λ(n,k)=>if(k==NameKind.free&&env.scope.kind==.function&&env.kindOf n==some .cell) then(n,NameKind.cell) else(n,k)).lookup x=some .free)
 | [],x,h=>by simp at h
 | (n,k)::r,x,h=>by
   have ih:=tj (env:=env) r x;rw[Jv];rw[Kb] at h;by_cases hb:(k==NameKind.free&&env.scope.kind==.function&&env.kindOf n==some .cell)=true
   . have e1:(if(k==NameKind.free&&env.scope.kind==.function&&env.kindOf n==some .cell)=true then(n,NameKind.cell) else(n,k))=(n,NameKind.cell):=JJ hb;simp only[e1,Kb];cases hx:x==n with
     | true=>exact .inl rfl
     | false =>
       rw[hx] at h;exact ih h
   . have e1:(if(k==NameKind.free&&env.scope.kind==.function&&env.kindOf n==some .cell)=true then(n,NameKind.cell) else(n,k))=(n,k):=JI hb;simp only[e1,Kb];cases hx:x==n with
     | true =>
       rw[hx] at h;exact .inr h
     | false =>
       rw[hx] at h;exact ih h
def rg {scope:Scope} {env:Env}:∀(names:List (Str×NameKind)) (x:Str),(∀y∈names,y.2≠.cell) ->
   ((names.map λ(n,k)=>if(k==NameKind.free&&env.scope.kind==.function&&env.kindOf n==some .cell) then(n,NameKind.cell) else(n,k)).lookup x=some .cell \/
     (names.map λ(n,k)=>if(k==NameKind.free&&env.scope.kind==.function&&env.kindOf n==some .cell) then(n,NameKind.cell) else(n,k)).lookup x=some .free)->(x,NameKind.free)∈names
 | [],x,_,h=>by simp at h
 | (n,k)::r,x,hc,h=>by
   have ih:=rg (scope:=scope) (env:=env) r x λy hy=>hc y (Jc _ hy);rw[Jv] at h;by_cases hb:(k==NameKind.free&&env.scope.kind==.function&&env.kindOf n==some .cell)=true
   . have hkf:k=.free:=by rw[Jf,Jf] at hb;simpa using hb.1.1
     have e1:(if(k==NameKind.free&&env.scope.kind==.function&&env.kindOf n==some .cell)=true then(n,NameKind.cell) else(n,k))=(n,NameKind.cell):=JJ hb;simp only[e1,Kb] at h;cases hx:x==n with
     | true =>
       have hx':x=n:=↑hx
       rw[hx',hkf];exact Je
     | false =>
       rw[hx] at h;exact Jc _ (ih h)
   . have e1:(if(k==NameKind.free&&env.scope.kind==.function&&env.kindOf n==some .cell)=true then(n,NameKind.cell) else(n,k))=(n,k):=JI hb;simp only[e1,Kb] at h;cases hx:x==n with
     | true =>
       have hx':x=n:=↑hx
       rw[hx] at h;rcases h with h|h
       . exact absurd (Option.some.inj h) (hc (n,k) Je)
       . have hkf:k=.free:=Option.some.inj h;rw[hx',hkf];exact Je
     | false =>
       rw[hx] at h;exact Jc _ (ih h)
variable {H:Hp}
def Un.sameBut {fs ex:List MV} {H':Hp}{h h1 h2:Heap} {C:MV} (u:Un fs ex H H' h h1) (hs:Heap.SameBut C h1 h2) (hC:h.objs.size<=C):Un fs ex H H' h h2:=by
 have ne:∀b o,h.get? b=⇑o->b≠C:=λb o e=>Jn (Jb (JU e) hC);show#[λb o e n hb hx=>(hs.2 b (ne b o e))\(u.keep b o e n hb hx),λb o e n hb hx=>?_,u.free,λb o e hx=>?_,u.tups,u.frzs,u.tbls]
 . let#[sl,q]:=u.slot b o e n hb hx;show#[sl,(hs.2 b (ne b o e))\q]
 . let#[o',q]:=u.there b o e hx;show#[o',(hs.2 b (ne b o e))\q]
def gW {α:Type} {t:Sem α} {Q Q':α->MU->Prop} {M:Model} {A:Around} {E:MT->MU->Prop} {s:MU} (h:wpAny M A t Q (λ_ _=>False) s) (hQ:∀a s,Q a s->Q' a s):wpAny M A t Q' E s:=Ki h hQ λ_ _ f=>f.elim
variable {elt target iter:Expr} {ifs:List Expr} {pos:Pos}
def Da {prog:Program} {w:World} {A:Around} {R:Result->MU->Prop} {s:MU} {it acc:MT} {env:Env} (I:Nat->MU->Prop)
   (turn:∀n s,I n s->wpAny 0x9 A (pyNext it) (λr s₁=>match r with
     | none=>R (.ok .next) s₁
     | some v=>wpAny 0x9 A (letOwnedTupleGo target it v) (λ_ s₂=>wpAny 0x9 A (assign target env v) (λ_ s₃ =>
         wpAny 0x9 A (forIn ifs true λc r=>if r=true then do let ok <- isTrue c env (eval c env); pure (ForInStep.yield ok) else pure (ForInStep.yield r)) (λok s₄ =>
           if ok=true then wpAny 0x9 A (eval elt env) (λx s₅ =>
             wpAny 0x9 A (call (.builtin "list.append") [acc,x]) (λ_ s₆=>∃m,m<n/\I m s₆) (λ_ _=>False) s₅) (λ_ _=>False) s₄
           else ∃m,m<n/\I m s₄) (λ_ _=>False) s₃) (λ_ _=>False) s₂) (λ_ _=>False) s₁) (λ_ _=>False) s)
   (n:Nat) (h:I n s):codeAny 0x9 A (.compLoop (.ListComp elt [#[target,iter,ifs,(0)]] scope pos) 0 it acc env) R s:=by
 refine codeAny_loop rfl I (λn s hI=>?_) n h;show wpAny _ A ((compTurn (.ListComp elt [#[target,iter,ifs,(0)]] scope pos) 0 it acc env).onRaise (λx=>do noteFrame x env; theTreesLotGoes x)) _ _ s;refine wpAny_noted ?_;rw[compTurn_list];refine J8 (LB (J8 (gW (turn n s hI) λr s₁ h₁=>?_)));cases r with
 | none=>exact JO h₁
 | some v =>
   refine J8 (gW h₁ λ_ s₂ h₂=>J8 (gW h₂ λ_ s₃ h₃=>J8 (gW h₃ λok s₄ h₄=>?_)));cases ok with
   | false=>exact JO #[rfl,h₄]
   | true =>
     exact J8 (J8 (gW h₄ λx s₅ h₅=>J8 (gW h₅ λ_ s₆ h₆=>JO (JO #[rfl,h₆]))))
abbrev j7 (X:Cx) (ifs:List Expr) (t:TT):Prop :=
 ∀(pins:List (MV×Obj)) (s:MU) (σ:St) (H:Hp) (Q:Bool->Hp->Prop),Inv X pins σ H s->t σ H Q ->
   wpAny 0x7 X.A (forIn ifs true λc r=>if r=true then do let ok <- isTrue c X.env (eval c X.env); pure (ForInStep.yield ok) else pure (ForInStep.yield r)) (TP X pins σ Q) X.xe s
abbrev FM:TT:=λ_ H Q=>Q true H
variable {X:Cx}
def cm :j7 X [] FM:=λ_ _ _ H _ I h=>wpAny_tests_nil #[H,I,h]
def Bc {c:Expr} {t:TT} (h:PT X c t):j7 X [c] t:=λpins s σ H Q I hq=>wpAny_tests_one (h pins s σ H Q I hq)
abbrev jO (js:List (JM Nat)) (g:TG):Prop:=∀(x:V) (σ:St) (H:Hp) (Q:St->Hp->Prop),σ.length=js.length->g x σ H Q->g x σ H λσ' H'=>Q σ' H'/\σ'.length=js.length/\∀(i j:Nat),js[i]?=⇑⇑j->σ'[i]?=σ[i]?
abbrev pD (js:List (JM Nat)) (g:gi):Prop:=∀(x:List V) (σ:St) (H:Hp) (Q:St->Hp->Prop),σ.length=js.length->g x σ H Q->∀Q':St->Hp->Prop,(∀σ' H',Q σ' H'->σ'.length=js.length->(∀(i j:Nat),js[i]?=⇑⇑j->σ'[i]?=σ[i]?)->Q' σ' H')->g x σ H Q'
def dJ {i:Nat} (h:js[i]?=⇑none:=by rfl):jO js (kO i):=λx σ H Q hl q=>#[q,by rw[Ko]; exact hl,λk j e=>by rw[KR];intro z;subst z;rw[h] at e;cases e]
def nt :pD js yb:=λx σ H Q hl z94_ Q' k=>by let#[e,q]:=z94_; show#[e,k _ _ q hl λ_ _ _=>rfl]
def j2 {i:Nat} {u:gi} (hu:pD js u) (h:js[i]?=⇑none:=by rfl):pD js (wQ (kO i) u):=λx σ H Q hl ⟨v,r,e,q⟩ Q' k=>#[v,r,e,by
 have hl':(σ.set i ⇑v).length=js.length:=by rw[Ko]; exact hl
 exact hu r (σ.set i ⇑v) H Q hl' q _ λσ' H' z1 z2 z3=>k σ' H' z1 z2 λn j e=>(z3 n j e)\(by rw[KR];intro z;subst z;rw[h] at e;cases e)]
variable {K:MW}
def n6 {n:Nat} {t:gi} (h:pD js t):jO js (jt K n t):=λx σ H Q hl z96_=>by let#[a,xs,e,sq,l,q]:=z96_; show#[a,xs,e,sq,l,h xs σ H Q hl q _ λσ' H' z1 z2 z3=>#[z1,z2,z3]]
abbrev i' (J:It) (g:TG) (tif:TT) (te:TE) (js:List (JM Nat)) (σ:St) (Q:VK) (p:MV) (H1:Hp):Prop :=
 ∃W:Nat->Nat->List V->Hp->Prop,(∃m,W 0 m [] (upd H1 p (.lst [])))/\∀i m acc H2,W i m acc H2->H2 p=⇑(.lst acc) /\
   ((J.stop i H2/\Q ↥p H2)\/(J.go i H2/\acc.length<sizeLine/\∃N:List V->Hp->Prop,(∀acc' H',N acc' H'->∃m',m'<m/\W (i+1) m' acc' H') /\
     ∀x H',J.yld i H2 x H'->g x (cC js σ) H' λσ2 H3=>tif σ2 H3 λc H4 =>
       if c=true then te σ2 H4 λy H5=>H5 p=⇑(.lst acc)/\N (acc++[y]) (upd H5 p (.lst (acc++[y]))) else N acc H4))
abbrev mF (wi:TI) (g:TG) (tif:TT) (te:TE) (js:List (JM Nat)):TE:=λσ H Q=>wi σ H λJ H1=>∀p,H1 p=none->i' J g tif te js σ Q p H1
variable {wi:TI} {tif:TT} {te:TE}
def yB {use:JM (MT->Sem Unit)} {Q':MT->MU->Prop} {Q:VK} {pins:List (MV×Obj)} {s:MU} {σ:St} {g:TG} (hok:jJ scope X.env.scope N' X.N js=true) (hc:X.calm=true)
   (hi:PI X target iter wi) (ho:jO js g) (hg:∀C s H fp,PG (cB X N' scope C s H fp) target g) (hif:∀C s H fp,j7 (cB X N' scope C s H fp) ifs tif) (he:∀C s H fp,PE (cB X N' scope C s H fp) elt te)
   (hs:∀x,foldedSetIterable iter X.env x=pure x) (I:Inv X pins σ H s) (h:mF wi g tif te js σ H Q)
   (hfin:∀(s2:MU) (H2:Hp) (fp:List MV) (C:MV),Inv X pins σ H2 s2->(∀b∈fp,eS X pins H2 b)->s2.heap.objs.size<=C->∀(σ':St) (H':Hp) (s':MU),Inv (cB X N' scope C s2 H2 fp) [] σ' H' s'->Q ↥s2.heap.objs.size H' ->
     compPost 0x7 X.A X.xe use Q' ↥s2.heap.objs.size C (.ok .next) s') :
   wpAny 0x7 X.A (comprehension (.ListComp elt [#[target,iter,ifs,(0)]] scope pos) scope X.env (firstIterPos [#[target,iter,ifs,(0)]] pos) (newList []) false (eval iter X.env) use) Q' X.xe s:=by
 have O:=ud hok;have hfr:∀y∈scope.names,y.2=.free->∃c,X.env.cells.lookup y.1=⇑c:=λy hy e=>I.ok.has y.1 (O.free y hy e);refine M8 (use:=use) rfl hs (ui hfr) O.kind O.names (aQ (hi pins s σ H _ I h) λv s1 h1=>aQ h1 λitv s2 h2=>?_);let#[it,fp,tn,J,H2,e,I2,T,st2,f2,hq]:=h2;subst e;have hf0:H2 s2.heap.objs.size=none:=I2.hok.fresh (JG _);obtain⟨W,⟨m0,w0⟩,turn⟩:=hq _ hf0;refine KL (wpAny_newFunctionEnv O.nocell (by intro y hy; simp at hy) (λh₁ hns₁ hsb₁=>?_) O.kind);dsimp only at hns₁ hsb₁ ⊢;generalize hH2:s2.heap.push { cls:=.type "list",dict:=none,data:=.seq ([]:List MT).toArray }=B at hns₁ hsb₁ ⊢;have hC:B.objs.size=s2.heap.objs.size+1:=by rw[<- hH2,KJ]
 have hCle:s2.heap.objs.size<=B.objs.size:=by rw[hC]; exact Kf _
 have old:∀b o,s2.heap.get? b=⇑o->h₁.get? b=⇑o:=λb o e=>hsb₁.extBut b o (by rw[hC]; exact Jn (Lx (JU e))) (JD _ (hH2 ▸ JD _ e));have hDC:s2.heap.objs.size≠B.objs.size:=by rw[hC]; exact Jn (KG _)
 have hacc:h₁.get? s2.heap.objs.size=some { cls:=.type "list",dict:=none,data:=.seq ([]:List MT).toArray }:=hsb₁.extBut _ _ hDC (JD _ (hH2 ▸ Ja _ rfl));have fpO:∀b∈fp,b<s2.heap.objs.size:=λb hb=>by let#[o,e,_]:=T.obj 0 _ st2 b hb;exact JU e
 have sub:∀x c,(dL scope.names X.env.cells []).lookup x=⇑c->X.env.cells.lookup x=⇑c:=nZ scope.names [] hfr (λx c e=>by cases e);have hasC:∀x,((relabel scope X.env).names.lookup x=some .cell\/(relabel scope X.env).names.lookup x=some .free)->∃c,(dL scope.names X.env.cells []).lookup x=⇑c:=λx hx =>
   Ks.mp (mm scope.names [] (rg (scope:=scope) (env:=X.env) scope.names x O.nocell hx))
 -- the block's context at its begin
 have IY:∀t,Inv (cB X N' scope B.objs.size s2 H2 fp) [] (cC js σ) (upd H2 s2.heap.objs.size (.lst [])) { s2 with heap:=h₁,toks:=t }:=by
   intro t;show#[#[I2.ok.mod,O.kind,I2.ok.glob,I2.ok.blt,hCle,λx y c h1 h2=>I2.ok.inj x y c (sub x c h1) (sub y c h2),λx hx=>hasC x hx,λx c h=>(by cases h),I2.ok.hd,I2.ok.frames,.inl rfl,λb hb=>#[Jn (Jb (fpO b hb) hCle),λx c e=>(f2 b hb).2.2.2.2.1 x c (sub x c e)],
     I2.bs,Jo I2.ok.bsz I2.sz,λb o e hb=>?_,λb hb z=>?_,I2.stack,I2.stkFree],rfl,I2.bare,Un.laid old (JG _) hf0,#[_,hns₁,λi x v e1 e2 e3=>?_],λx c e=>?_,?_,λx c e=>?_,λp hp=>absurd (show p∈([]:List (MV×Obj)) from hp) 0xB,?_,?_]
   . rcases (f2 b hb).2.2.2.1 with z|z
     . exact I2.ok.noex b o e z
     . exact absurd (Jb (Jb (JU e) I2.ok.bsz) z) (Ju _)
   . rcases JS.mp (I2.stkSub b z) with q|q
     . exact(f2 b hb).2.1 q
     . exact(f2 b hb).2.2.1 q
   . have e1:N'[i]?=⇑x:=e1;unfold cC at e2;rw[JC] at e2;cases q:js[i]? with
     | none=>rw[q] at e2; cases e2
     | some o =>
       rw[q] at e2;cases o with
       | none=>cases e2
       | some j =>
         have e2:(σ[j]?).join=⇑v:=↑e2
         have e2':σ[j]?=⇑⇑v:=by
           cases z:σ[j]? with
           | none=>rw[z] at e2; cases e2
           | some a=>rw[z] at e2; cases a with
             | none=>cases e2
             | some a=>cases e2; rfl
         let#[hN,hk,hsf]:=O.slots i j x q e1;let#[m,hn,hl]:=I2.loc;let#[u,r,l]:=hl j x v hN e2' (.inr hk);show#[u,r,?_];have hkX:X.env.kindOf x=some .cell\/X.env.kindOf x=some .free:=hk;rcases l with⟨k,_⟩|⟨k,c,hc',hcell⟩
         . rcases hkX with z|z
           . rw[k] at z; cases z
           . rw[k] at z; cases z
         . have hky:(relabel scope X.env).names.lookup x=some .cell\/(relabel scope X.env).names.lookup x=some .free:=tj (env:=X.env) scope.names x hsf;let#[c2,hc2]:=hasC x hky;have:c2=c:=by have:=sub x c2 hc2;rw[hc'] at this;exact(Option.some.inj this).symm
           subst this;let#[ob,ho,hd]:=hcell;exact .inr #[hky,c2,hc2,ob,old _ _ ho,hd]
   . let#[v,ob,ho,hd]:=I2.cell x c (sub x c e);show#[v,ob,old _ _ ho,hd]
   . show upd H2 s2.heap.objs.size (.lst []) B.objs.size=none;rw[aR (Ne.symm hDC)];exact I2.hok.fresh hCle
   . let#[v,ob,ho,hd]:=I2.cell x c (sub x c e);rw[aR (Jn (JU ho))];exact I2.freeC x c (sub x c e)
   . exact I2.hok.laid old (JG _) #[Jd _,[],(0),.nil,hacc]
   . unfold cC;rw[J7];exact O.len
 have hcl:(cC js σ).length=js.length:=by unfold cC; rw[J7]
 have fin:∀{σ':St} {H':Hp} {s':MU},Inv (cB X N' scope B.objs.size s2 H2 fp) [] σ' H' s'->Q ↥s2.heap.objs.size H'->compPost 0x7 X.A X.xe use Q' ↥s2.heap.objs.size B.objs.size (.ok .next) s' :=
   λ{σ' H' s'} J q=>hfin s2 H2 fp B.objs.size I2 f2 hCle σ' H' s' J q
 have loop:∀t,codeAny 0x7 X.A (.compLoop (.ListComp elt [⟨target,iter,ifs,0⟩] scope pos) 0 ↥it ↥s2.heap.objs.size (compEnvC scope (dL scope.names X.env.cells []) B.objs.size X.env))
     (compPost 0x7 X.A X.xe use Q' ↥s2.heap.objs.size B.objs.size) { s2 with heap:=h₁,toks:=t }:=by
   intro t;have stat:∀{H':Hp},(∀b∈fp,H' b=none)->∀b∈fp,eS (cB X N' scope B.objs.size s2 H2 fp) [] H' b:=λhn b hb =>
     #[hn b hb,Jn (Jb (fpO b hb) hCle),(IY t).ok.exfs b hb,.inl hb,λx c e=>((IY t).ok.exf b hb).2 x c e,λp hp=>absurd (show p∈([]:List (MV×Obj)) from hp) 0xB]
   refine Da (λn s'=>∃i acc H',Inv (cB X N' scope B.objs.size s2 H2 fp) [] (cC js σ) H' s'/\tn i s'.heap/\(∀b∈fp,H' b=none)/\W i n acc H') ?_ m0
     #[(0),[],_,IY t,T.keep 0 _ _ st2 (λb _ o e=>old b o e),λb hb=>by rw[aR (Jn (fpO b hb))]; exact(f2 b hb).1,w0]
   rintro n s3 ⟨i,acc,H3,I3,st3,fr3,w3⟩;let#[hD,turn]:=turn i n acc H3 w3;rcases turn with⟨stop,qn⟩|⟨go,hlen,N,hN,step⟩
   . refine aQ (T.done (cB X N' scope B.objs.size s2 H2 fp) rfl rfl rfl hc i [] s3 (cC js σ) H3 (λ_ _=>False) I3 (stat fr3) st3 stop) λr s4 z97_=>?_;let#[hr,I4]:=z97_;subst hr;exact fin I4 qn
   . refine aQ (T.item (cB X N' scope B.objs.size s2 H2 fp) rfl rfl rfl hc i [] s3 (cC js σ) H3 (λ_ _=>False) I3 (stat fr3) st3 go) λr s4 z98_=>?_;let#[u,hr,h4]:=z98_;subst hr;refine aQ h4 λ_ s5 z99_=>?_;let#[x,H5,I5,r5,y5,st5,fr5]:=z99_;have I5':=I5.pinned (stat fr5) (T.obj _ _ st5);refine aQ (hg _ _ _ _ _ s5 (cC js σ) H5 x u _ I5' r5 (ho x (cC js σ) H5 _ hcl (step x H5 y5))) λ_ s6 z100_=>?_;let#[σ6,H6,I6,q6,hl6,hk6]:=z100_;refine aQ (hif _ _ _ _ _ s6 σ6 H6 _ I6 q6) λok s7 z101_=>?_;let#[H7,I7,q7]:=z101_;have again:∀{H8:Hp} {acc8:List V} {s8:MU},Inv (cB X N' scope B.objs.size s2 H2 fp) ([]++kP fp s5.heap) σ6 H8 s8->N acc8 H8 ->
         ∃m,m<n/\∃i acc H',Inv (cB X N' scope B.objs.size s2 H2 fp) [] (cC js σ) H' s8/\tn i s8.heap/\(∀b∈fp,H' b=none)/\W i m acc H':=by
       intro H8 acc8 s8 I8 n8;let#[m',hm,w8]:=hN acc8 H8 n8;show#[m',hm,i+1,acc8,H8,?_,T.keep _ _ _ st5 λb hb o e=>(I8.pin (b,o) (Jk _ (Jk _ (jx hb e)))).1,λb hb=>?_,w8]
       . refine Inv.weak I8.unpinned (by rw[hl6,hcl]) λk v e=>?_;have e':=e;unfold cC at e;rw[JC] at e;cases q:js[k]? with
         | none=>rw[q] at e; cases e
         | some o =>
           cases o with
           | none=>rw[q] at e; cases e
           | some j=>rw[hk6 k j q]; exact e'
       . let#[o,e,d]:=T.obj _ _ st5 b hb;exact(I8.pin (b,o) (Jk _ (Jk _ (jx hb e)))).2.1
     cases ok with
     | false=>exact again I7 q7
     | true =>
       refine aQ (he _ _ _ _ _ s7 σ6 H7 _ I7 q7) λy s8 z102_=>?_;let#[yv,H8,I8,r8,hD8,q8]:=z102_;refine aQ (ja _ s8 σ6 H8 ↥s2.heap.objs.size [yv] ↥s2.heap.objs.size [y] (λ_ H9=>N (acc++[yv]) H9) I8 rfl (.cons r8 .nil) #[_,acc,yv,7,hD8,hlen,q8]) λ_ s9 z103_=>?_;let#[_,H9,I9,_,q9]:=z103_;exact again I9 q9
 exact codeAny_compStart_list (loop _) (T.self X.A 0 _ _ _ (T.keep 0 _ _ st2 (λb _ o e=>old b o e)) (loop _))
def eJ {g:TG} (hok:jJ scope X.env.scope N' X.N js=true) (hc:X.calm=true)
   (hi:PI X target iter wi) (ho:jO js g) (hg:∀C s H fp,PG (cB X N' scope C s H fp) target g) (hif:∀C s H fp,j7 (cB X N' scope C s H fp) ifs tif) (he:∀C s H fp,PE (cB X N' scope C s H fp) elt te)
   (hs:∀x,foldedSetIterable iter X.env x=pure x:=by intro _; rfl):PE X (.ListComp elt [#[target,iter,ifs,(0)]] scope pos) (mF wi g tif te js):=by
 intro pins s σ H Q I h;rw[eval_ListComp];refine yB (use:=none) hok hc hi ho hg hif he hs I h λs2 H2 fp C I2 f2 hCle σ' H' s' J q=>?_;let#[m,hn,_]:=J.loc;show#[m,hn,λh' hs'=>#[↥s2.heap.objs.size,H',?_,rfl,q]];refine I2.call' (s':={ s' with heap:=h' }) (ch:=fp) J.os (J.base.sameBut hs' hCle) (λb ob e=>?_) J.bare λb hb=>#[(f2 b hb).2.2.2.1,(f2 b hb).2.1,(f2 b hb).2.2.2.2.1,(f2 b hb).2.2.2.2.2]
 refine(J.hok b ob e).stay (λc w' hc q=>(hs'.2 c ?_)\q) (λ_ q=>q) λ_ _ q=>q;have hfree:H' C=none:=J.free;intro hcC;rw[hcC] at hc;rcases hc with z|z
 . rw[<- z,hfree] at e; cases e
 . rw[hfree] at z; cases z
def mB {i:Nat} {y:Str} {py spos:Pos}{g:TG} (hN:X.N.Nodup) (hi':X.N[i]?=⇑y) (hx:kQ X.env.scope y)
   (hok:jJ scope X.env.scope N' X.N js=true) (hc:X.calm=true)
   (hi:PI X target iter wi) (ho:jO js g) (hg:∀C s H fp,PG (cB X N' scope C s H fp) target g) (hif:∀C s H fp,j7 (cB X N' scope C s H fp) ifs tif) (he:∀C s H fp,PE (cB X N' scope C s H fp) elt te)
   (hsw:swapsWith (.ListComp elt [#[target,iter,ifs,(0)]] scope pos) ⇑(.Name y py) spos.line X.env=pure true)
   (hs:∀x,foldedSetIterable iter X.env x=pure x:=by intro _; rfl) (hf:X.fn y=true\/X.env.scope.names.lookup y=some .local:=by first|exact .inl rfl|exact .inr rfl|assumption) :
   PS X (.Assign [.Name y py] (.ListComp elt [#[target,iter,ifs,(0)]] scope pos) spos) (sr (mF wi g tif te js) (kO i)):=by
 intro pins s σ H D I h;rw[exec_Assign_Name_used _ _ _ _ hsw];refine J8 (LB (J8 ?_));show wpAny _ X.A (do let _ <- comprehension (.ListComp elt [⟨target,iter,ifs,0⟩] scope pos) scope X.env _ (newList []) false (eval iter X.env) ⇑(assign (.Name y py) X.env)) _ _ s;refine J8 (aQ (yB (use:=⇑(assign (.Name y py) X.env)) (Q':=λ_ s'=>SP X pins D .next s') hok hc hi ho hg hif he hs I h λs2 H2 fp C I2 f2 hCle σ' H' s' J q=>?_) λ_ s' q=>?_)
 . let#[m,hn,_]:=J.loc;have I3:Inv X pins σ H' s':=I2.call' (ch:=fp) J.os J.base J.hok J.bare λb hb=>#[(f2 b hb).2.2.2.1,(f2 b hb).2.1,(f2 b hb).2.2.2.2.1,(f2 b hb).2.2.2.2.2]
   have hCL:C≠X.env.locals:=λz=>absurd (Jb I2.lt hCle) (by rw[z]; exact Ju _);have hCc:∀x c,X.env.cells.lookup x=⇑c->c≠C:=λx c e z=>by let#[v,ob,ho,_]:=I2.cell x c e;exact absurd (Jb (JU ho) hCle) (by rw[z]; exact Ju _)
   have hCp:∀p∈X.pn++pins,p.1≠C:=λp hp z=>by have e:=(I2.pin p hp).1;exact absurd (Jb (JU e) hCle) (by rw[z]; exact Ju _)
   show wpAny _ X.A (assign (.Name y py) X.env ↥s2.heap.objs.size) _ _ s';refine wpAny_assign_Name (vW I3 hN hi' hx (v:=↥s2.heap.objs.size) rfl (λs'' I4 z104_=>?_) hf);let#[a,hsb,ha]:=z104_;have hna:C≠a:=by
     rcases ha with z|z
     . rw[z]; exact hCL
     . exact(hCc _ _ z).symm
   show#[m,hn.sameBut hsb hna,λh' hs'=>#[_,H',?_,q]];exact I4.turned (t':=s''.toks) (h':=h') (it:=C) (λb o hb e=>(hs'.2 b hb)\e) J.free hCL (.inr (Jo I2.sz hCle)) hCc hCp
 . exact JO (JO q)
abbrev rY (x:Str):It:=#[λi _=>i<x.length,λi H v H'=>H'=H/\∃c,x.cps[i]?=⇑c/\v=.str #[(List.toArray [c])],λi _=>i=x.length]
def wN {P:Program} {w:World} {tg:Expr} {it:MV} {x:Str} {t:Tok} {ty:String}
   (hty:["enumerate","zip","dict_itemiterator","dict_reverseitemiterator","odict_iterator","itertools.zip_longest","itertools.pairwise"].contains ty=false)
   (W:∀A:Around,A.handled=none->Walks P w A it [it] [it] x.cps.size (SignAt x) (λi h=>h.IsStrIter it ty x t i))
   (hs:∀(A:Around) (i:Nat) (s:MU) (Q:MT->MU->Prop) (E:MT->MU->Prop),s.heap.IsStrIter it ty x t i->Q ↥it s->wpAny (model P w) A (pyIter ↥it) Q E s) :
   Turn P w K tg (rY x) [it] it (λi h=>h.IsStrIter it ty x t i) where
 mem:=by simp
 obj:=λi h st b hb=>by
   have e:b=it:=↑hb
   subst e;let#[o,e,c,d]:=st;show#[o,e,λv z=>by rw[d] at z; cases z]
 keep:=λi h h' st k=>by let#[o,e,r]:=st;show#[o,k it 0xB o e,r]
 item:=by intro X hP hw hK hc i pins s σ H E I hf st hg;subst hP hw hK;let#[f0,f1,f2,f3,f4,f5]:=hf it 0xB;refine(W X.A (I.ok.hd hc)).item i s _ _ hg st λv h' tk hv st' kk=>?_;let#[c,u,hx,rfl]:=hv;have I1:Inv X pins σ H { s with heap:=h',toks:=tk }:=I.turned (λb o hb e=>kk b o ↑hb e) f0 f1 f3 f4 f5;let#[o,e,cc,d]:=id st';show#[5,lK (s:={ s with heap:=h',toks:=tk }) e cc d hty #[.str #[(List.toArray [c])],H,I1,#[u,rfl],#[rfl,c,hx,rfl],st',λb hb=>(hf b hb).1]]
 done:=by intro X hP hw hK hc i pins s σ H E I hf st hg;subst hP hw hK;let#[f0,f1,f2,f3,f4,f5]:=hf it 0xB;have hi:i=x.cps.size:=hg;subst hi;refine(W X.A (I.ok.hd hc)).done s _ _ st λh' tk kk=>#[rfl,I.turned (λb o hb e=>kk b o ↑hb e) f0 f1 f3 f4 f5]
 self:=λA i s Q E st h=>hs A i s Q E st h
section
variable {X:Cx} {tg:Expr}
abbrev Dl (tl:TE):TI:=λσ H R=>tl σ H λx H1=>∃z,x=.str z/\R (rY z) H1
def GB {l:Expr} {tl:TE} (hl:PE X l tl):PI X tg l (Dl tl):=by
 intro pins s σ H R I h;refine aQ (hl pins s σ H _ I h) λv s1 z105_=>?_;let#[x,H1,I1,r1,q1]:=z105_;let#[z,e,q]:=q1;subst e;let#[t,rfl]:=r1;have fo:∀b∈[s1.heap.objs.size],eS X pins H1 b:=λb hb=>by
   have e:b=s1.heap.objs.size:=↑hb
   subst e;exact I1.fpOk (JG _) (I1.hok.fresh (JG _))
 cases ha:z.cps.all (·<128)
 . refine wpAny_pyIter_wide ha ?_;show#[s1.heap.objs.size,[s1.heap.objs.size],4,H1,rfl,I1.kept (t':=s1.toks) λb o e=>JD _ e,wN (t:=t) #[] (λA hA=>Walks.strWide hA _ z t) (λA i s Q E st h=>wpAny_pyIter_striter_wide st h),#[_,Ja _ rfl,7],fo,q]
 . refine wpAny_pyIter_ascii ha ?_;show#[s1.heap.objs.size,[s1.heap.objs.size],4,H1,rfl,I1.kept (t':=s1.toks) λb o e=>JD _ e,wN (t:=t) #[] (λA hA=>Walks.strAscii hA _ z t) (λA i s Q E st h=>wpAny_pyIter_striter_ascii st h),#[_,Ja _ rfl,7],fo,q]
end
variable {p:MV}
section
variable {g:TG} {tif:TT} {te:TE} {js:List (JM Nat)} {σ:St} {H:Hp} {Q:VK}
abbrev kA (g:TG) (tif:TT) (te:TE) (σ:St) (p:MV) (acc:List V) (N:List V->Hp->Prop) (x:V) (H:Hp):Prop :=
 g x σ H λσ2 H3=>tif σ2 H3 λc H4=>if c=true then te σ2 H4 λy H5=>H5 p=⇑(.lst acc)/\N (acc++[y]) (upd H5 p (.lst (acc++[y]))) else N acc H4
def gG {lo:Int} {n:Nat} (hn:n<=1000000) (Pv:Nat->List V->Hp->Prop) (h0:Pv 0 [] (upd H p (.lst [])))
   (hl:∀i acc H2,i<=n->Pv i acc H2->H2 p=⇑(.lst acc)/\acc.length<=i)
   (hs:∀i acc H2,i<n->Pv i acc H2->kA g tif te (cC js σ) p acc (Pv (i+1)) (.int (lo+i)) H2) (hd:∀acc H2,Pv n acc H2->Q ↥p H2) :
   i' (jH lo n) g tif te js σ Q p H:=by
 show#[λi m acc H=>m=n - i/\i<=n/\Pv i acc H,#[n,by simp,Jd _,h0],?_];rintro i m acc H2 ⟨rfl,hi,q⟩;let#[q1,q2]:=hl i acc H2 hi q;show#[q1,?_];by_cases hlt:i<n
 . refine .inr #[hlt,?_,Pv (i+1),λacc' H' p'=>#[n - (i+1),∅,rfl,hlt,p'],λx H' y=>?_]
   . have:(1000000:Nat)<sizeLine:=by decide
     lia
   . let#[e,y]:=y;subst e y;exact hs i acc _ hlt q
 . have e:i=n:=by lia
   subst e;exact .inl #[JG _,hd acc H2 q]
def EC {z:Str} (hn:z.length<=1000000) (Pv:Nat->List V->Hp->Prop) (h0:Pv 0 [] (upd H p (.lst [])))
   (hl:∀i acc H2,i<=z.length->Pv i acc H2->H2 p=⇑(.lst acc)/\acc.length<=i)
   (hs:∀i c acc H2,z.cps[i]?=⇑c->Pv i acc H2->kA g tif te (cC js σ) p acc (Pv (i+1)) (.str #[(List.toArray [c])]) H2) (hd:∀acc H2,Pv z.length acc H2->Q ↥p H2) :
   i' (rY z) g tif te js σ Q p H:=by
 show#[λi m acc H=>m=z.length - i/\i<=z.length/\Pv i acc H,#[z.length,by simp,Jd _,h0],?_];rintro i m acc H2 ⟨rfl,hi,q⟩;let#[q1,q2]:=hl i acc H2 hi q;show#[q1,?_];by_cases hlt:i<z.length
 . refine .inr #[hlt,?_,Pv (i+1),λacc' H' p'=>#[z.length - (i+1),∅,rfl,hlt,p'],λx H' y=>?_]
   . have:(1000000:Nat)<sizeLine:=by decide
     lia
   . let#[e,c,hc,y]:=y;subst e y;exact hs i c acc _ hc q
 . have e:i=z.length:=by lia
   subst e;exact .inl #[rfl,hd acc H2 q]
def ie {a:MV} {xs:List V} (hn:xs.length<=1000000) (Pv:Nat->List V->Hp->Prop) (h0:Pv 0 [] (upd H p (.lst [])))
   (hl:∀i acc H2,i<=xs.length->Pv i acc H2->H2 p=⇑(.lst acc)/\acc.length<=i/\aH K H2 a xs)
   (hs:∀i x acc H2,xs[i]?=⇑x->Pv i acc H2->kA g tif te (cC js σ) p acc (Pv (i+1)) x H2) (hd:∀acc H2,Pv xs.length acc H2->Q ↥p H2) :
   i' (kX K a) g tif te js σ Q p H:=by
 show#[λi m acc H=>m=xs.length - i/\i<=xs.length/\Pv i acc H,#[xs.length,by simp,Jd _,h0],?_];rintro i m acc H2 ⟨rfl,hi,q⟩;let#[q1,q2,q3]:=hl i acc H2 hi q;show#[q1,?_];by_cases hlt:i<xs.length
 . refine .inr #[#[xs,xs[i],q3,by simp [hlt]],?_,Pv (i+1),λacc' H' p'=>#[xs.length - (i+1),∅,rfl,hlt,p'],λx H' y=>?_]
   . have:(1000000:Nat)<sizeLine:=by decide
     lia
   . let#[e,y]:=y;subst e;exact hs i x acc _ (y xs q3) q
 . have e:i=xs.length:=by lia
   subst e;exact .inl #[#[xs,q3,JG _],hd acc H2 q]
def EB {a:MV} {xs:List V} (hn:xs.length<=1000000) (Pv:Nat->List V->Hp->Prop) (h0:Pv 0 [] (upd H p (.lst [])))
   (hl:∀i acc H2,i<=xs.length->Pv i acc H2->H2 p=⇑(.lst acc)/\acc.length<=i/\aJ K H2 a xs)
   (hs:∀i x acc H2,xs[i]?=⇑x->Pv i acc H2->kA g tif te (cC js σ) p acc (Pv (i+1)) x H2) (hd:∀acc H2,Pv xs.length acc H2->Q ↥p H2) :
   i' (kN K a) g tif te js σ Q p H:=by
 show#[λi m acc H=>m=xs.length - i/\i<=xs.length/\Pv i acc H,#[xs.length,by simp,Jd _,h0],?_];rintro i m acc H2 ⟨rfl,hi,q⟩;let#[q1,q2,q3]:=hl i acc H2 hi q;show#[q1,?_];by_cases hlt:i<xs.length
 . refine .inr #[#[xs,xs[i],q3,by simp [hlt]],?_,Pv (i+1),λacc' H' p'=>#[xs.length - (i+1),∅,rfl,hlt,p'],λx H' y=>?_]
   . have:(1000000:Nat)<sizeLine:=by decide
     lia
   . let#[e,y]:=y;subst e;exact hs i x acc _ (y xs q3) q
 . have e:i=xs.length:=by lia
   subst e;exact .inl #[#[xs,q3,JG _],hd acc H2 q]
end
section
variable {X:Cx}
def Dg {h:Heap} {sl:MV} {vl vu:MT} {lo hi:JM Int} (hs:h.IsSliceOf sl vl vu .none) (pl:IsPart vl lo) (pu:IsPart vu hi):∃l u:JM (Int×Tok),l.map (·.1)=lo/\u.map (·.1)=hi/\h.IsSlice sl l u none:=by
 let#[o,ho,hc,hd]:=hs;cases pl with
 | none =>
   cases pu with
   | none=>show#[none,none,7,o,ho,hc,hd]
   | int j t=>show#[none,⇑(j,t),7,o,ho,hc,hd]
 | int i t =>
   cases pu with
   | none=>show#[⇑(i,t),none,7,o,ho,hc,hd]
   | int j t'=>show#[⇑(i,t),⇑(j,t'),7,o,ho,hc,hd]
abbrev Fg:V->JM Int->JM Int->Hp->VK->Prop:=λx lo hi H Q=>∃z,x=.str z/\z.length<=sizeLine/\Q (.str (Txt.slice z lo hi)) H
def yP:fk X Fg:=by
 intro pins s σ H x v vl vu lo hi sl Q I rx hs pl pu h;let#[z,rfl,hz,q]:=h;let#[t,rfl]:=rx;let#[l,u,rfl,rfl,hsl]:=Dg hs pl pu;show#["str",_,F.slot_str_getitem.lookup,typeIs_str _ _ _,wpAny_getItem_str_slice (l:=l) (u:=u) (st:=none) hsl rfl
   (post_val_or_str #[Jo (Txt.slice_le z _ _) hz,λt' k=>#[.str (Txt.slice z (l.map (·.1)) (u.map (·.1))),H,I.tok _,#[5],q]])]
def Cg {ys:List Str}:∀{us:List MT},aV (ys.map V.str) us->StrsAre us ys:=by
 induction ys with
 | nil=>intro us h; cases h; exact .nil
 | cons y r ih =>
   intro us h;cases h with
   | cons r1 h =>
     let#[t,rfl]:=r1;exact .cons y t (ih h)
abbrev BI (K:MW):V->List V->Hp->VK->Prop:=λx xs H Q=>∃sep p ys,x=.str sep/\xs=[↥p]/\aH K H p (ys.map V.str)/\(ys.map (·.length)).sum+ys.length * sep.length<=16777216/\Q (.str (Txt.join sep ys)) H
def k7:nQ X "str.join" (BI X.K):=by intro pins s σ H x xs v us Q I rx r h;let#[sep,p,ys,rfl,rfl,hp,hl,q]:=h;let#[t,rfl]:=rx;let#[u,rfl,ru]:=gu r;cases (show u=Value.ref p from ru);let#[its,rv,pl,hz]:=I.list hp;exact join_list pl.isList (by simpa using Cg rv) hl λt' k=>#[.str (Txt.join sep ys),H,I.tok _,#[5],q]
def EN:ay X (.builtin "isinstance") (λxs H Q=>∃x c t b,xs=[x,.ty c]/\TyOf X.K H x t/\PySem.W.kitOne X.K t (.type c)=⇑b/\Q (.bl b) H):=by intro pins s σ H xs us Q I r h;let#[x,c,t,b,rfl,ty,hk,q]:=h;let#[u,w',rfl,rx,rc]:=ng r;cases (show w'=Value.type c from rc);exact z7 I rx ty hk λtk=>#[.bl b,H,I.tok _,rfl,q]
def E6 (bs:List Bool):(List.range bs.length).all (λi=>bs.getD i false)=bs.all id:=by
 rw[K5,Ku,Ku];constructor
 . intro h b hb;let#[i,hi,rfl]:=List.mem_iff_getElem.mp hb;have:=h i (KA.mpr hi);simpa [List.getD,hi] using this
 . intro h i hi;have hi':=KA.mp hi;have:=h bs[i] (K2 hi');simpa [List.getD,hi'] using this
def sI:X.calm=true->ay X (.builtin "all") (λxs H Q=>∃(p:MV) (bs:List Bool),xs=[↥p]/\aH X.K H p (bs.map V.bl)/\Q (.bl (bs.all id)) H):=by
 intro hc pins s σ H xs us Q I r h;let#[p,bs,rfl,hp,q]:=h;let#[u,rfl,ru]:=gu r;cases (show u=Value.ref p from ru);let#[its,rv,pl,hz]:=I.list hp;have hlen:=rv.length;rw[J7] at hlen;have hne:p≠s.heap.objs.size:=Jn pl.lt;refine call_all_walk (Kj pl.isList ?_);have W:=Walks.list (prog:=X.prog) (w:=X.w) (A:=X.A.in1) (I.ok.hd hc) s.heap.objs.size p hne its.toArray;show#[s.heap.objs.size,32,λi=>bs.getD i false,rfl,W,#[#[_,Ja _ rfl,7],pl.isList.push _],?_,λh' tk hk=>?_]
 . intro i v s' Q' E' hv hq;have hv':its[i]?=⇑v:=↑hv
   have hi:i<bs.length:=by rw[hlen]; exact(JF.mp hv').1
   have hb:(bs.map V.bl)[i]?=⇑(.bl bs[i]):=by simp [hi]
   let#[u',e1,r1]:=rv.get hb;rw[hv'] at e1;cases e1;cases (show v=Value.bool bs[i] from r1);have e2:bs.getD i false=bs[i]:=by simp [List.getD,hi]
   have hq:Q' (bs.getD i false) s':=hq;rw[e2] at hq;exact KS hq
 . have e:(List.range its.toArray.size).all (λi=>bs.getD i false)=bs.all id:=by rw[JV,<- hlen];exact E6 bs
   rw[e];show#[.bl (bs.all id),H,I.kept λb o q=>hk b o (λz=>by
     have z':b=s.heap.objs.size:=↑z
     rw[z'] at q;exact absurd (JU q) (Ju _)) (JD _ q),rfl,q]
end
abbrev lp:Expr->JM V
 | .Constant (.str x) _ _=>⇑(.str x)
 | .Constant (.int i) _ _=>⇑(.int i)
 | .Constant (.bool b) _ _=>⇑(.bl b)
 | .Constant .none _ _=>some .non
 | _=>none
abbrev pB:List Expr->JM (List V)
 | []=>⇑[]
 | e::r=>match lp e,pB r with
   | some v,⇑vs=>⇑(v::vs)
   | _,_=>none
def CC {e:Expr} {v:V} (h:lp e=⇑v):PE X e (tC v):=by
 unfold lp at h;split at h
 . cases h; exact ak
 . cases h; exact aE
 . cases h; exact gC
 . cases h; exact jG
 . cases h
def FC {e:Expr} {es:List Expr} {v:V} (h:lp e=⇑v):starEach (e::es) X.env=(false,eval e X.env)::starEach es X.env:=by unfold lp at h;split at h <;> first|rfl|cases h
def uL {X:Cx}:∀{es:List Expr} {vs:List V},pB es=⇑vs->PA X es (λ_ H Q=>Q vs H)
 | [],vs,h=>by cases h;exact aD
 | e::r,vs,h=>by
   unfold pB at h;split at h
   . rename_i v vs' h1 h2
     cases h;exact ae (CC h1) (uL h2) (FC h1)
   . cases h
def Same.tup {K:MW} {H H':Hp} {a:MV} {xs:List V} (e:Same H H') (h:aJ K H a xs):aJ K H' a xs:=by
 rcases h with(h|⟨o,h⟩)|h
 . exact .inl (.inl (e _ _ h))
 . exact .inl (.inr #[o,e _ _ h])
 . exact .inr h
def Same.new {o:HO} (h:H p=none):Same H (upd H p o):=λb u e=>by rw[aR (aY e h)];exact e
def Same.upd {H':Hp}{o:HO} (e:Same H H') (h:H p=none):Same H (upd H' p o):=λb u q=>by rw[aR (aY q h)];exact e b u q
structure DefOk (K:W.Frag) (mg:Str->Option Value) (name:Str) (st:Stmt) (ps:List Str) (f:Addr) (fd:FuncData):Prop where
 F:Fun K name name st f fd
 g:mg name=⇑↥f
 b:gH K fd ps []
section
variable {X:Cx} {k:Nat} {f:MV} {fd:FuncData} {ps:List Str} {sp:Sp} {x:Str} {st:Stmt} {p pos:Pos} {e:Expr} {es:List Expr} {t:TA}
def aS (D:DefOk X.K X.mg x st ps f fd) (G:FnOk X.prog X.w X.K X.mg X.base CX0 k f fd ps sp) (hr:Room k X.A) (ha:PA X (e::es) t) (hg:Gl X x:=by rfl)
   (hdb:(x==("__debug__":Str))=false:=by decide) (he:starEach (e::es) X.env=(false,eval e X.env)::starEach es X.env:=by rfl) (hpl:(backTo pos (starEach es X.env)).any (·.1)=false:=by rfl) :
   PE X (.Call (.Name x p) (e::es) [] pos) (qj sp [] E0 t):=xF G hr hg D.g D.F.kp D.b .nil xq ha hdb he hpl
def wm {z:Str} (h:∃t,X.mg x=⇑(.str z t)) (hg:Gl X x:=by rfl) (hd:(x==("__debug__":Str))=false:=by decide):PE X (.Name x pos) (tC (.str z)):=by let#[t,h]:=h;exact rQ hg h #[t,rfl] hd
def jZ {z:Int} (h:∃t,X.mg x=⇑(.int z t)) (hg:Gl X x:=by rfl) (hd:(x==("__debug__":Str))=false:=by decide):PE X (.Name x pos) (tC (.int z)):=by let#[t,h]:=h;exact rQ hg h #[t,rfl] hd
def lE {a:MV} (h:X.mg x=⇑↥a) (hg:Gl X x:=by rfl) (hd:(x==("__debug__":Str))=false:=by decide):PE X (.Name x pos) (tC ↥a):=rQ hg h rfl hd
end
def bX {mg:Str->JM MT} {h:Heap} {name:Str} {st:Stmt} {ps:List Str} {f:MV} {oc:MT} {od an:JM MV} {osl:Array (JM MT)} {kV doc pm cdv ct:MT} (X:K.In h) (G:h.Ns mainGlobals mg)
   (a:PySem.W.nsIn K mainGlobals name=⇑⇑↥f) (l:K.lookup f=⇑#[oc,od,.func (PySem.W.fnOf name name (eg st) (eG st) (ai st) .none kV doc pm an cdv ct),osl]) (c:PySem.W.codeIn K cdv name=true) (k:PySem.W.keepIn K ↥f=true)
   (b:∀(kV doc pm:MT) (an:JM MV) (cdv ct:MT) (us:List MT),us.length=ps.length->bindArgs (PySem.W.fnOf name name (eg st) (eG st) (ai st) .none kV doc pm an cdv ct) #[us,[]]=pure (ps.zip us)) :
   DefOk K mg name st ps f (PySem.W.fnOf name name (eg st) (eG st) (ai st) .none kV doc pm an cdv ct) :=
 #[kW l c k,PySem.W.mg_of X G a,(kW l c k).binds b]
def dX {p:Prop} [Decidable p] (h:decide p=true):p:=LR h
def az {c A B:Prop} [Decidable c] (hc:c) (h:A):if c then A else B:=by rw[JJ hc];exact h
def au {c A B:Prop} [Decidable c] (hc:¬ c) (h:B):if c then A else B:=by rw[JI hc];exact h
end L2
namespace L2
open PySem
def bR:bootBuiltins "len"=⇑(.builtin "len"):=by decide +kernel
def qS:bootBuiltins "all"=⇑(.builtin "all"):=by decide +kernel
def iJ:bootBuiltins "isinstance"=⇑(.builtin "isinstance"):=by decide +kernel
def EF:bootBuiltins "min"=⇑(.builtin "min"):=by decide +kernel
def z8:bootBuiltins "str"=⇑(.type "str"):=by decide +kernel
def lB:bootBuiltins "int"=⇑(.type "int"):=by decide +kernel
def Iq:bootBuiltins "bool"=⇑(.type "bool"):=by decide +kernel
def iX:bootBuiltins "list"=⇑(.type "list"):=by decide +kernel
def ip:bootBuiltins "tuple"=⇑(.type "tuple"):=by decide +kernel
def BL:bootBuiltins "dict"=⇑(.type "dict"):=by decide +kernel
def B':bootBuiltins "enumerate"=⇑(.type "enumerate"):=by decide +kernel
def Ct:bootBuiltins "zip"=⇑(.type "zip"):=by decide +kernel
def B8 {b:Bool} (h:b=false):¬ b=true:=by rw[h]; decide
end L2
namespace L2
open PySem PySem.Spec PyProof.Rows
mutual
noncomputable def DatV (K:MW) (H:Hp):PyData->V->Prop
 | .none,v=>v=.non
 | .bool b,v=>v=.bl b
 | .int i,v=>v=.int i
 | .str x,v=>v=.str x
 | .list ds,v=>∃a xs,v=↥a/\aH K H a xs/\DatAll K H ds xs
 | .tuple ds,v=>∃a xs,v=↥a/\aJ K H a xs/\DatAll K H ds xs
 | .dict _,_=>False
noncomputable def DatAll (K:MW) (H:Hp):List PyData->List V->Prop
 | [],xs=>xs=[]
 | d::ds,xs=>∃x r,xs=x::r/\DatV K H d x/\DatAll K H ds r
end
section
variable {X:Cx} {pins:List (MV×Obj)} {σ:St} {H:Hp} {s:MU}
mutual
theorem lz (I:Inv X pins σ H s):∀(d:PyData) (v:V) (u:MT),DatV X.K H d v->af v u->∃as,Reads s.heap u d as
 | .none,v,u,h,r=>by unfold DatV at h;subst h;cases (show u=Value.none from r);show#[_,.none]
 | .bool b,v,u,h,r=>by unfold DatV at h;subst h;cases (show u=Value.bool b from r);show#[_,.bool b]
 | .int i,v,u,h,r=>by
   unfold DatV at h;subst h;let#[t,rfl]:=(show ∃t,u=Value.int i t from r)
   show#[_,.int i t]
 | .str x,v,u,h,r=>by
   unfold DatV at h;subst h;let#[t,rfl]:=(show ∃t,u=Value.str x t from r)
   show#[_,.str x t]
 | .list ds,v,u,h,r=>by unfold DatV at h;let#[a,xs,rfl,hq,hd]:=h;cases (show u=Value.ref a from r);obtain⟨its,rv,⟨o,n,ho,hc,_,hdt⟩,_⟩:=I.list hq;let#[as,ra]:=qh I ds xs its hd rv;show#[_,.list ho hc hdt ↑ra]
 | .tuple ds,v,u,h,r=>by unfold DatV at h;let#[a,xs,rfl,hq,hd]:=h;cases (show u=Value.ref a from r);obtain⟨its,rv,⟨o,ho,hc,n,hdt⟩,_⟩:=I.tuple hq;let#[as,ra]:=qh I ds xs its hd rv;show#[_,.tuple ho hc hdt ↑ra]
 | .dict _,v,u,h,r=>by unfold DatV at h;exact h.elim
theorem qh (I:Inv X pins σ H s):∀(ds:List PyData) (xs:List V) (us:List MT),DatAll X.K H ds xs->aV xs us->∃as,ReadsAll s.heap us ds as
 | [],xs,us,h,r=>by unfold DatAll at h;subst h;cases r;show#[_,.nil]
 | d::ds,xs,us,h,r=>by
   unfold DatAll at h;let#[x,rest,rfl,hd,hds]:=h;cases r with
   | cons r1 r2 =>
     let#[as,ra]:=lz I d _ _ hd r1;let#[bs,rb]:=qh I ds _ _ hds r2;show#[_,.cons ra rb]
end
end
abbrev rS (K:MW):R2:=λx y H Q=>∃d e,DatV K H d x/\DatV K H e y/\SeqAt.shaped d=true/\SeqAt.shaped e=true/\Q (.bl (PyData.eqv d e)) H
abbrev uP (K:MW):R2:=λx y H Q=>∃d e,DatV K H d x/\DatV K H e y/\SeqAt.shaped d=true/\SeqAt.shaped e=true/\Q (.bl (!PyData.eqv d e)) H
variable {X:Cx}
def qT (hu:X.A.units+64<cLine):bc X (compareOp .Eq) (rS X.K):=by intro pins s σ H x y v u Q I rx ry h;let#[d,e,hd,he,sd,se,q]:=h;let#[as,ra]:=lz I d x v hd rx;let#[bs,rb]:=lz I e y u he ry;exact SeqAt.compareEq_shaped ra rb sd se hu #[.bl _,H,I,rfl,q]
def i4 (hu:X.A.units+64<cLine):bc X (compareOp .NotEq) (uP X.K):=by intro pins s σ H x y v u Q I rx ry h;let#[d,e,hd,he,sd,se,q]:=h;let#[as,ra]:=lz I d x v hd rx;let#[bs,rb]:=lz I e y u he ry;exact SeqAt.compareNe_shaped ra rb sd se hu #[.bl _,H,I,rfl,q]
def jP :bc X (binaryOp .FloorDiv) (rI (λ_ j=>0<j/\j<2 ^ 64) λi j=>.int (i / j)):=j8 λi j _ _ _ _ _ hc q=>by
 have h1:(0:Int)<j:=hc.1;have h2:j<2 ^ 64:=hc.2;refine floordiv_int ∅ (by rw[LC i ∅]; exact q) (.inl (PyProof.noPylong_of_log2 ?_));have h0:j.natAbs≠0:=by lia
 refine Nat.lt_trans (m:=64) ((Nat.log2_lt h0).mpr ?_) #[];have:(2:Int) ^ 64=((2 ^ 64:Nat):Int):=by decide
 lia
section
variable {κ:Type} [DecidableEq κ]
abbrev bf (kvs:List (κ×V)) (k:κ):JM V:=(kvs.find? λkv=>decide (kv.1=k)).map (·.2)
abbrev b5 (kvs:List (κ×V)) (k:κ) (v:V):List (κ×V) :=
 if(kvs.any λkv=>decide (kv.1=k))=true then kvs.map (λkv=>if kv.1=k then(kv.1,v) else kv) else kvs++[(k,v)]
def gb {p:κ×V} {r:List (κ×V)} {k:κ} (e:p.1=k):bf (p::r) k=⇑p.2:=by simp [bf,K',e]
def gO {p:κ×V} {r:List (κ×V)} {k:κ} (e:¬ p.1=k):bf (p::r) k=bf r k:=by simp [bf,K',e]
def jw (k:κ):∀kvs:List (κ×V),(kvs.any λkv=>decide (kv.1=k))=(bf kvs k).isSome
 | []=>rfl
 | p::r=>by
   rw[LX];by_cases e:p.1=k
   . simp only[gb e,Jg e,Bool.true_or,Option.isSome_some]
   . rw[gO e,J' e,Bool.false_or]; exact jw k r
def wr (k j:κ) (y:V):∀kvs:List (κ×V),bf (kvs.map λkv=>if kv.1=k then(kv.1,y) else kv) j=(bf kvs j).map λx=>if j=k then y else x
 | []=>rfl
 | p::r=>by
   have ih:=wr k j y r;rw[Jv];by_cases h:p.1=k
   . rw[JJ h];by_cases e:p.1=j
     . rw[gb (p:=(p.1,y)) e,gb e,Lg,JJ (e.symm\h)]
     . rw[gO (p:=(p.1,y)) e,gO e,ih]
   . rw[JI h];by_cases e:p.1=j
     . rw[gb (p:=p) e,gb e,Lg,JI (λz=>h (e\z))]
     . rw[gO (p:=p) e,gO e,ih]
def yE (k j:κ) (y:V):∀kvs:List (κ×V),bf kvs k=none->bf (kvs++[(k,y)]) j=if j=k then ⇑y else bf kvs j
 | [],_=>by
   by_cases e:k=j
   . rw[JJ e.symm]; exact gb (p:=(k,y)) e
   . rw[JI (λz=>e z.symm)]; exact gO (p:=(k,y)) e
 | p::r,hn=>by
   rw[List.cons_append];have hk:¬ p.1=k:=λz=>by rw[gb z] at hn; cases hn
   rw[gO hk] at hn;have ih:=yE k j y r hn;by_cases e:p.1=j
   . rw[gb e,gb e,JI (λz=>hk (e\z))]
   . rw[gO e,gO e,ih]
def ky (kvs:List (κ×V)) (k j:κ) (y:V):bf (b5 kvs k y) j=if j=k then ⇑y else bf kvs j:=by
 unfold b5;by_cases a:(kvs.any λkv=>decide (kv.1=k))=true
 . rw[JJ a,wr];rw[jw] at a;by_cases e:j=k
   . let#[x,hx]:=Ks.mp a;rw[JJ e,e,hx,Lg,JJ rfl]
   . rw[JI e];cases bf kvs j with
     | none=>rfl
     | some x=>rw[Lg,JI e]
 . rw[JI a];refine yE k j y kvs ?_;rw[jw] at a;cases q:bf kvs k with
   | none=>rfl
   | some x=>rw[q] at a; exact(a rfl).elim
def fc (kvs:List (κ×V)) (k:κ) (v:V):(b5 kvs k v).length<=kvs.length+1:=by
 unfold b5;split
 . rw[J7]; lia
 . rw[JE,JX,L0]; lia
def yI {kvs:List (κ×V)} {k:κ} (v:V) (h:bf kvs k=none):b5 kvs k v=kvs++[(k,v)]:=by unfold b5;rw[jw,h];exact JI #[]
def eX.isSome_eq {o:JM V} {u:JM MT} (r:eX o u):o.isSome=u.isSome:=by
 cases o with
 | none=>cases u with
   | none=>rfl
   | some _=>exact(show False from r).elim
 | some _=>cases u with
   | none=>exact(show False from r).elim
   | some _=>rfl
def KV.val {kvs:List (κ×V)} {vs:List (κ×MT)} (r:KV kvs vs) (k:κ):eX (bf kvs k) (valueAt vs k):=by
 unfold KV at r
 induction r with
 | nil=>exact True.intro
 | @cons p q ps qs h t ih =>
   let#[h1,h2]:=h;by_cases e:p.1=k
   . have e':q.1=k:=h1.symm\e;have b:valueAt (q::qs) k=⇑q.2:=by simp [valueAt,K',e']
     rw[gb e,b]; exact h2
   . have e':¬ q.1=k:=λz=>e (h1\z);have b:valueAt (q::qs) k=valueAt qs k:=by simp [valueAt,K',e']
     rw[gO e,b]; exact ih
def KV.any {kvs:List (κ×V)} {vs:List (κ×MT)} (r:KV kvs vs) (k:κ):(kvs.any λkv=>decide (kv.1=k))=vs.any λkv=>decide (kv.1=k):=by
 unfold KV at r
 induction r with
 | nil=>rfl
 | cons h t ih=>rw[LX,LX,ih,h.1]
variable {u:MT} {y:V}
def KV.repl {kvs:List (κ×V)} {vs:List (κ×MT)} (r:KV kvs vs) (k:κ) (ry:af y u) :
   KV (kvs.map λkv=>if kv.1=k then(kv.1,y) else kv) (vs.map λkv=>if kv.1=k then(kv.1,u) else kv):=by
 unfold KV at r ⊢
 induction r with
 | nil=>exact .nil
 | @cons p q ps qs h t ih =>
   rw[Jv,Jv];refine .cons ?_ ih;let#[h1,h2]:=h;by_cases e:p.1=k
   . rw[JJ e,JJ (h1.symm\e)]; show#[h1,ry]
   . rw[JI e,JI (λz=>e (h1\z))]; show#[h1,h2]
def KV.put {kvs:List (κ×V)} {vs:List (κ×MT)} (r:KV kvs vs) (k:κ) (ry:af y u):KV (b5 kvs k y) (stored vs k u):=by
 unfold b5 stored;rw[r.any k];by_cases e:(vs.any λkv=>decide (kv.1=k))=true
 . rw[JJ e,JJ e]; exact r.repl k ry
 . rw[JI e,JI e]; exact Paired.snoc r #[rfl,ry]
def KV.length {kvs:List (κ×V)} {vs:List (κ×MT)} (r:KV kvs vs):kvs.length=vs.length:=Paired.length r
end
variable {w:World}
def kJ {P:Program} {k:aP} (r:af (kV k) u):(ce P w).is k u=true:=by
 cases k with
 | inl i=>let#[t,e]:=(show ∃t,u=Value.int i t from r); subst e; exact CD P w i t
 | inr x=>let#[t,e]:=(show ∃t,u=Value.str x t from r); subst e; exact GJ P w x t
def uv {P:Program} {w:World}:∀{ks:List aP} {us:List MT},aV (ks.map kV) us->ItemsAre (ce P w) ks us
 | [],_,r=>by rw[M7] at r; cases r; exact .nil
 | k::ks,_,r=>by
   rw[Jv] at r;cases r with
   | cons h t=>exact .cons (kJ h) (uv t)
noncomputable abbrev KT (H:Hp):List (List aP×V)->List (List aP×MV×MT)->Prop:=Paired λp q=>p.1=q.1/\H q.2.1=⇑(.tup (p.1.map kV))/\af p.2 q.2.2
variable {H:Hp}
def KT.val {kvs:List (List aP×V)} {xs:List (List aP×MV×MT)} (r:KT H kvs xs) (k:List aP):eX (bf kvs k) ((atKey xs k).map (·.2)):=by
 induction r with
 | nil=>exact True.intro
 | @cons p q ps qs h t ih =>
   let#[h1,_,h2]:=h;by_cases e:p.1=k
   . have e':q.1=k:=h1.symm\e;have b:atKey (q::qs) k=⇑q.2:=by simp [atKey,K',e']
     rw[gb e,b]; exact h2
   . have e':¬ q.1=k:=λz=>e (h1\z);have b:atKey (q::qs) k=atKey qs k:=by simp [atKey,K',e']
     rw[gO e,b]; exact ih
def KT.repl {kvs:List (List aP×V)} {xs:List (List aP×MV×MT)} (r:KT H kvs xs) (k:List aP) (ry:af y u) :
   KT H (kvs.map λkv=>if kv.1=k then(kv.1,y) else kv) (xs.map (putAt k u)):=by
 induction r with
 | nil=>exact .nil
 | @cons p q ps qs h t ih =>
   rw[Jv,Jv];refine .cons ?_ ih;let#[h1,h2,h3]:=h;unfold putAt;by_cases e:p.1=k
   . rw[JJ e,JJ (h1.symm\e)]; show#[h1,h2,ry]
   . rw[JI e,JI (λz=>e (h1\z))]; show#[h1,h2,h3]
def KT.put {kvs:List (List aP×V)} {xs:List (List aP×MV×MT)} (r:KT H kvs xs) (k:List aP) {b:MV} (hb:H b=⇑(.tup (k.map kV))) (ry:af y u) :
   KT H (b5 kvs k y) (storedH xs k b u):=by
 have e:(kvs.any λkv=>decide (kv.1=k))=(atKey xs k).isSome:=by rw[jw,(r.val k).isSome_eq,Option.isSome_map]
 unfold b5 storedH;rw[e];by_cases q:(atKey xs k).isSome=true
 . rw[JJ q,JJ q]; exact r.repl k ry
 . rw[JI q,JI q]; exact Paired.snoc r #[rfl,hb,ry]
variable {H':Hp}
def KT.keeps {kvs:List (List aP×V)} {xs:List (List aP×MV×MT)} (r:KT H kvs xs) (ht:∀b ys,H b=⇑(.tup ys)->H' b=⇑(.tup ys)):KT H' kvs xs :=
 Paired.mapP r λ_ _ z=>#[z.1,ht _ _ z.2.1,z.2.2]
section
variable {P:Program} {w:World} {H:Hp} {h:Heap} {a:MV}
def uf {u:HO} (ok:bU P w H h) (e:Rd H a u):cM P w H h a u:=e.ok ok
def lw {kvs:List (aP×V)} (ok:bU P w H h) (e:Rd H a (.dK kvs)):kvs.length<=sizeLine/\(a==sysModules)=false/\∃vs,KV kvs vs/\h.DictOf (ce P w) a vs :=
 show cM P w H h a (.dK kvs) from uf ok e
def mR {kvs:List (aP×V)} (ok:bU P w H h) (e:H a=⇑(.dK kvs)):kvs.length<=sizeLine/\(a==sysModules)=false/\∃vs,KV kvs vs/\h.DictOf (ce P w) a vs:=lw ok (.inl e)
def oy {ks:List aP} (ok:bU P w H h) (e:H a=⇑(.tup (ks.map kV))):(tupleKind (ce P w)).is h ks a:=by
 let#[_,its,r,o,h1,h2,n,h3]:=(show cM P w H h a (.tup (ks.map kV)) from ok a _ e)
 show#[o,its.toArray,n,h1,h2,h3,by simpa using uv r]
def kj {kvs:List (List aP×V)} (ok:bU P w H h) (e:Rd H a (.dT kvs)):kvs.length<=sizeLine/\(a==sysModules)=false /\
   ∃xs,KT H kvs xs/\h.DictOfH (tupleKind (ce P w)) a xs:=by
 let#[z,y,xs,r,o,es,ep,h1,h2,h3,h4,h5]:=(show cM P w H h a (.dT kvs) from uf ok e)
 show#[z,y,xs,r,o,es,ep,h1,h2,h3,h4,λx hx=>?_,h5];have all:∀{l:List (List aP×V)} {m:List (List aP×MV×MT)},KT H l m->∀x∈m,(tupleKind (ce P w)).is h x.1 x.2.1:=by
   intro l m q
   induction q with
   | nil=>intro x hx; exact nomatch hx
   | @cons p q ps qs hq t ih =>
     intro x hx;rcases JS.mp hx with e|hx
     . subst e;exact oy ok (by rw[<- hq.1]; exact hq.2.1)
     . exact ih x hx
 exact all r x hx
def E2 {kvs:List (List aP×V)} (ok:bU P w H h) (e:H a=⇑(.dT kvs)):kvs.length<=sizeLine/\(a==sysModules)=false /\
   ∃xs,KT H kvs xs/\h.DictOfH (tupleKind (ce P w)) a xs:=kj ok (.inl e)
end
abbrev fH (H:Hp) (a:MV) (y:V) (r:JM V):Prop :=
 (∃kvs k,Rd H a (.dK kvs)/\y=kV k/\r=bf kvs k)\/∃kvs k b,Rd H a (.dT kvs)/\y=↥b/\H b=⇑(.tup (k.map kV))/\r=bf kvs k
abbrev fZ (H:Hp) (a:MV) (y v:V) (H':Hp):Prop :=
 (∃kvs k,H a=⇑(.dK kvs)/\y=kV k/\kvs.length<sizeLine/\H'=upd H a (.dK (b5 kvs k v))) \/
 ∃kvs k b,H a=⇑(.dT kvs)/\y=↥b/\H b=⇑(.tup (k.map kV))/\kvs.length<sizeLine/\H'=upd H a (.dT (b5 kvs k v))
def fH.k {H:Hp} {a:MV} {kvs:List (aP×V)} {k:aP} (e:H a=⇑(.dK kvs)):fH H a (kV k) (bf kvs k):=.inl #[kvs,k,.inl e,7]
def fZ.k {H:Hp} {a:MV} {kvs:List (aP×V)} {k:aP} {v:V} (e:H a=⇑(.dK kvs)) (hl:kvs.length<sizeLine):fZ H a (kV k) v (upd H a (.dK (b5 kvs k v))):=.inl #[kvs,k,e,rfl,hl,rfl]
section
variable {X:Cx} {pins:List (MV×Obj)} {σ:St} {H:Hp} {s:MU} {a:MV} {y v:V} {u r:MT} {o:JM V} {A:Around} {E:MT->MU->Prop}
def Inv.big (I:Inv X pins σ H s):sysModules<s.heap.objs.size:=by have h:mainGlobals<s.heap.objs.size:=(I.mod.glob.keeps I.bk).lt;exact Nat.lt_trans #[] h
def Dk {Q:MT->MU->Prop} (hu:A.units+1<cLine) (I:Inv X pins σ H s) (g:fH H a y ⇑v) (ry:af y u) (h:∀w' s',Inv X pins σ H s'->af v w'->Q w' s') :
   wpAny 0x7 A (getItem ↥a u) Q E s:=by
 rcases g with⟨kvs,k,e,ey,l⟩|⟨kvs,k,b,e,ey,eb,l⟩
 . subst ey;let#[z,hd,vs,rel,dd]:=lw I.hok e;let#[w',hw,rw']:=eX.some_of (v:=v) (o:=valueAt vs k) (by rw[l]; exact rel.val k);exact wpAny_getItem_of (kJ ry) dd.mapOf hw (h w' _ (I.tok _) rw')
 . subst ey;cases (show u=Value.ref b from ry);let#[z,hd,xs,rel,dd]:=kj I.hok e;let#[w',hw,rw']:=eX.some_of (v:=v) (o:=(atKey xs k).map (·.2)) (by rw[l]; exact rel.val k);let#[p,hp,hp2]:=Option.map_eq_some_iff.mp hw;refine wpAny_getItem_heap (tupleKind_room_in1 hu) (oy I.hok eb) dd hp ?_;rw[hp2];exact h w' _ (I.tok _) rw'
def FN {Q:MT->MU->Prop} (hu:A.units+1<cLine) (I:Inv X pins σ H s) (g:fH H a y o) (ry:af y u) (h:∀s',Inv X pins σ H s'->Q (.bool o.isSome) s') :
   wpAny 0x7 A (compareOp .In u ↥a) Q E s:=by
 rcases g with⟨kvs,k,e,ey,l⟩|⟨kvs,k,b,e,ey,eb,l⟩
 . subst ey;let#[z,hd,vs,rel,dd]:=lw I.hok e;refine wpAny_in_of (kJ ry) hd dd.mapOf ?_;rw[<- (rel.val k).isSome_eq,<- l];exact h _ (I.tok _)
 . subst ey;cases (show u=Value.ref b from ry);let#[z,hd,xs,rel,dd]:=kj I.hok e;refine wpAny_in_heap (tupleKind_room_in1 hu) (oy I.hok eb) hd dd ?_;have q:=(rel.val k).isSome_eq;rw[Option.isSome_map] at q;rw[<- q,<- l];exact h _ (I.tok _)
def nO {h':Heap} {t':Nat} {ob:HO} (I:Inv X pins σ H s) (mu:lR (H a)) (hs:Heap.SameBut a s.heap h') (he:∃q,h'.get? a=⇑q) (new:cM X.prog X.w (upd H a ob) h' a ob) :
   Inv X pins σ (upd H a ob) { s with heap:=h',toks:=t' } :=
 I.write (x:=a) (e:=a) mu (.inl rfl) (λb q hb z=>(hs.2 b hb)\z) he new
def rf {P:Program} {h':Heap} {kvs:List (aP×V)} {vs:List (aP×MT)} (z:kvs.length<=sizeLine) (hd:(a==sysModules)=false) (rel:KV kvs vs) (dd:h'.DictOf (ce P w) a vs) :
   cM P w H' h' a (.dK kvs):=#[z,hd,vs,rel,dd]
def GR {Q:Unit->MU->Prop} (hu:A.units+1<cLine) (I:Inv X pins σ H s) (g:fZ H a y v H') (ry:af y u) (rv:af v r) (h:∀s',Inv X pins σ H' s'->Q () s') :
   wpAny 0x7 A (setItem ↥a u r) Q E s:=by
 rcases g with⟨kvs,k,e,ey,l,eH⟩|⟨kvs,k,b,e,ey,eb,l,eH⟩
 . subst ey eH;let#[z,hd,vs,rel,dd]:=mR I.hok e;have hz:vs.length<=sizeLine:=by rw[<- rel.length]; exact z
   have hl:(b5 kvs k v).length<=sizeLine:=by have:=fc kvs k v; lia
   refine wpAny_setItem_pairs (hsz:=hz) (kJ ry) dd λh' dd' hs=>h _ ?_;have he:∃q,h'.get? a=⇑q:=by let#[q,_,_,hq,_]:=dd'; show#[q,hq]
   exact nO I (by rw[e]; exact True.intro) hs he (rf hl hd (rel.put k rv) dd')
 . subst ey eH;cases (show u=Value.ref b from ry);let#[z,hd,xs,rel,dd]:=E2 I.hok e;have hz:xs.length<=sizeLine:=by rw[<- Paired.length rel]; exact z
   have hl:(b5 kvs k v).length<=sizeLine:=by have:=fc kvs k v; lia
   refine wpAny_setItem_heap (hsz:=hz) (tupleKind_room_in1 hu) (oy I.hok eb) dd λh' dd' hs=>h _ ?_;let#[q,es,ep,hq,h2,h3,h4,_,h5]:=dd';refine nO I (by rw[e]; exact True.intro) hs #[q,hq] #[hl,hd,_,(rel.put k eb rv).keeps λc ys ec=>?_,q,es,ep,hq,h2,h3,h4,h5];rw[aR (jB ec e (λz=>nomatch z))];exact ec
end
abbrev zF (i:Expr):Prop:=∀ov iv,subscripted i false ov iv=operate [ov,iv] (getItem ov iv)
def CS {prog:Program} {A:Around} {E:MT->MU->Prop} {s:MU} {env:Env} {value slice:Expr} {pos:Pos} {T id:String} {Q:MT->MU->Prop}
   (hl:typeLookup (.type T) "__getitem__"=pure ⇑(.builtin id)) (hs:zF slice)
   (h:wpAny 0x9 A (eval value env) (λo s₁=>wpAny 0x9 A (eval slice env) (λi s₂=>s₂.TypeIs o T/\wpAny 0x9 A (getItem o i) Q E s₂) E s₁) E s) :
   wpAny 0x9 A (eval (.Subscript value slice pos) env) Q E s:=by
 refine Subscript_ (Ki h (λo s₁ h₁=>Ki h₁ (λi s₂ h₂=>?_) λ_ _ x=>x) λ_ _ x=>x);let#[hT,h₂]:=h₂;unfold subscriptTail;refine J8 ?_;rw[getitemInPython_of_ne hT.not_modules];refine J8 (wpAny_specialOf hT hl ?_);have fin:wpAny 0x9 A (subscripted slice false o i) (λr s₃=>wpAny 0x9 A (letTemporaryGo value o r >>= λ_=>pure r) Q E s₃) E s₂:=by rw[hs o i];exact wpAny_operating (Ki h₂ (λr s₃ h₃=>J8 (wpAny_letTemporaryGo (JO h₃))) λ_ _ x=>x)
 first
   | exact JO (J8 fin)
   | exact J8 (JO (J8 fin))
   | exact J8 fin
def Hy {pins:List (MV×Obj)} {σ:St} {s:MU} {a:MV} {o:JM V} (I:Inv X pins σ H s) (g:fH H a y o):s.TypeIs ↥a "dict":=by
 rcases g with⟨kvs,k,e,_,_⟩|⟨kvs,k,b,e,_,_,_⟩
 . let#[_,_,vs,_,dd]:=lw I.hok e;exact dd.typeIs
 . let#[_,_,xs,_,dd]:=kj I.hok e;exact dd.typeIs
abbrev Es (td ty:TE):TE:=λσ H Q=>td σ H λx H1=>ty σ H1 λy H2=>∃a v,x=↥a/\fH H2 a y ⇑v/\Q v H2
abbrev GW (ty td:TE):TE:=λσ H Q=>ty σ H λy H1=>td σ H1 λx H2=>∃a o,x=↥a/\fH H2 a y o/\Q (.bl o.isSome) H2
abbrev IH (td ty tv:TE):TS:=λD σ H=>tv σ H λv H1=>td σ H1 λx H2=>ty σ H2 λy H3=>∃a H4,x=↥a/\fZ H3 a y v H4/\D.nx σ H4
section
variable {X:Cx} {o i e value:Expr} {pos pos' tpos:Pos} {td ty tv:TE}
def iw (hu:X.A.units+1<cLine) (ho:PE X o td) (hi:PE X i ty) (hs:zF i):PE X (.Subscript o i pos) (Es td ty):=by intro pins s σ H Q I h;refine CS PySem.F.slot_dict_getitem.lookup hs (aQ (ho pins s σ H _ I h) λu s1 z106_=>z106_.e λx H1 I1 rx q1=>aQ (hi pins s1 σ H1 _ I1 q1) λiv s2 z107_=>?_);let#[y,H2,I2,ry,a,v,ex,g,q2]:=z107_;subst ex;obtain rfl:u=Value.ref a:=rx;show#[Hy I2 g,Dk hu I2 g ry λw' s3 I3 rw'=>#[v,H2,I3,rw',q2]]
def Cw (hu:X.A.units+1<cLine) (hi:PE X i ty) (ho:PE X o td):PC X .In i o (GW ty td):=by intro pins s σ H Q I h;refine aQ (hi pins s σ H _ I h) λiv s1 z108_=>z108_.e λy H1 I1 ry q1=>aQ (ho pins s1 σ H1 _ I1 q1) λu s2 z109_=>?_;let#[x,H2,I2,rx,a,ov,ex,g,q2]:=z109_;subst ex;obtain rfl:u=Value.ref a:=rx;exact FN hu I2 g ry λs3 I3=>#[.bl ov.isSome,H2,I3,rfl,q2]
def iS (hu:X.A.units+1<cLine) (ho:PE X o td) (hi:PE X i ty) (hv:PE X value tv) (hs:swapsWith value ⇑(.Subscript o i pos') pos.line X.env=pure false) :
   PS X (.Assign [.Subscript o i pos'] value pos) (IH td ty tv):=by
 intro pins s σ H D I h;refine wpAny_Assign_Subscript (aQ (hv pins s σ H _ I h) λr s1 z112_=>z112_.e λv H1 I1 rv q1=>aQ (ho pins s1 σ H1 _ I1 q1) λu s2 z113_=>z113_.e λx H2 I2 rx q2=>aQ (hi pins s2 σ H2 _ I2 q2) λiv s3 z114_=>?_) hs;let#[y,H3,I3,ry,a,H4,ex,g,q3]:=z114_;subst ex;obtain rfl:u=Value.ref a:=rx;exact GR hu I3 g ry rv λs4 I4=>#[σ,H4,I4,q3]
end
def xQ {P:Program} (h:Heap) (hb:sysModules<h.objs.size):cM P w H (h.push { cls:=.type "dict",data:=.dict (List.toArray []) }) h.objs.size (.dK []) :=
 #[Jd _,beq_eq_false_iff_ne.mpr (Ne.symm (Jn hb)),[],.nil,Heap.DictOf.new h]
abbrev Fa:TE:=λ_ H Q=>∀p,H p=none->Q ↥p (upd H p (.dK []))
section
variable {X:Cx} {pos:Pos}
def iR:PE X (.Dict [] [] pos) Fa:=λpins s σ H Q I h =>
 wpAny_Dict_empty #[↥s.heap.objs.size,_,I.laid (a:=s.heap.objs.size) (o:=.dK []) (t':=s.toks) (λ_ _ q=>JD _ q) (JG _) (xQ s.heap I.big),rfl,h _ (I.hok.fresh (JG _))]
end
structure M2 (X:Cx) (o:Expr) (m:Str) (apos:Pos) (e f:Expr) (cpos:Pos):Prop where
 base:attributeBase o m X.env (eval o X.env)=eval o X.env
 few:((backTo cpos (starEach [e,f] X.env)).all (λx=>!x.1)&&(backToKw cpos (keywordEach [] X.env)).all (λx=>x.1.isSome)
   && decide (([e,f]:List Expr).length+([]:List Keyword).length+(if([]:List Keyword).isEmpty then 0 else 1)<30))=true
 line:(apos.endLine==cpos.line)=true
 trees:backTo cpos (starEach [e,f] X.env)=[(false,eval e X.env),(false,eval f X.env)]
abbrev IsD (H:Hp) (a:MV):Prop:=(∃kvs,Rd H a (.dK kvs))\/∃kvs,Rd H a (.dT kvs)
def Co {pins:List (MV×Obj)} {σ:St} {s:MU} {a:MV} (I:Inv X pins σ H s) (d:IsD H a) :
   s.TypeIs ↥a "dict"/\(∀b,Value.ref a=↥b->∃ob,s.heap.get? b=⇑ob/\ob.dict=none)/\(a==sysModules)=false:=by
 rcases d with⟨kvs,e⟩|⟨kvs,e⟩
 . let#[_,hd,vs,_,dd]:=lw I.hok e;show#[dd.typeIs,λb q=>?_,hd];cases q;let#[ob,_,_,h1,h2,_]:=dd;show#[ob,h1,h2.2.1]
 . let#[_,hd,xs,_,dd]:=kj I.hok e;show#[dd.typeIs,λb q=>?_,hd];cases q;let#[ob,_,_,h1,h2,_]:=dd;show#[ob,h1,h2.2.1]
end L2
namespace PySem
def DE:typeLookup (.type "list") "keys"=pure none:=by rw[typeLookup_type,builtinLookup_eq_fast]; kernel_rfl
def vY:entryFor table "dict.update.loop"=⇑Builtin.«dict.update.loop»:=entryFor_of_tree (by kernel_rfl)
def oR:plainId "dict.update.loop"=true:=by decide +kernel
def F8 {prog:Program} {w:World} {A:Around} {E:MT->MU->Prop} {s:MU} {a:MV} {o:Obj} {xs:Array MT} {k:Nat} {Q:JM MT->MU->Prop}
   (hx:s.heap.get? a=⇑o) (hc:o.cls=.type "list") (hdat:o.data=.seq xs k) (hd:o.dict=none) (hA:A.handled=none)
   (h:∀h' tk,(∀b ob,s.heap.get? b=⇑ob->h'.get? b=⇑ob)->Q none { s with heap:=h',toks:=tk }) :
   wpAny 0x9 A (getAttr? ↥a "keys") Q E s:=by
 let#[c,dct,dat,sl]:=o;simp only at hc hdat hd;subst hc hdat hd;let#[hp,g,d,tk,os]:=s;have hT:∀tk',(⟨hp,g,d,tk',os⟩:MU).TypeIs ↥a "list":=λ_=>#[_,hx,rfl]
 have f1:=sub_AttributeError;have f3:=LH.lookup;have f4:=LH.bind ↥a;have f5:=am_list_getattr_none;unfold getAttr? getAttrBy? getAttrBy
 repeat (any_goals (first|assumption|exact hT _|((with_reducible show wpAny _ _ (call (Value.builtin "list.__getattribute__") _ _) _ _ _); refine call_meets LH (hT _) am_entry_list_getattribute (F.args_list_getattribute_2 _ _) (meets_getattribute_miss_list a xs k sl "keys" _ DE 0xA 0xA) #[hx,hA,λh' tk' e hx'=>?_])|wp_step))
 let#[t',u',he]:=hx'.there
 try (show wpAny _ _ (getattributeRaised _ _ _ _ _ _ _) _ _ _)
 try unfold getattributeRaised
 repeat (any_goals (first|assumption|wp_step))
 all_goals (first|exact h _ _ hx'.keeps|trace_state)
end PySem
namespace L2
open PySem PySem.Spec PyProof.Rows
section
variable {X:Cx} {pins:List (MV×Obj)} {σ:St} {H:Hp}
def re {α β:Type} {F:α->β->Prop}:∀{l:List α} {m:List β},Paired F l m->∀{i:Nat} (h1:i<l.length) (h2:i<m.length),F l[i] m[i]
 := by
 intro l m h
 induction h with
 | nil=>intro i h1; simp at h1
 | cons h t ih =>
   intro i h1 h2;cases i with
   | zero=>exact h
   | succ i =>
     have:=ih (i:=i) ↑h1 ↑h2;simpa using this
def Ga {A:Around} {R:Result->MU->Prop} {p D it:MV} {ps:List MV} {kvs:List (aP×V)} (hA:A.handled=none) (hpD:p≠D) (hS:aH X.K H p (ps.map V.ref)) (hps:Paired (λa (kv:aP×V)=>aJ X.K H a [kV kv.1,kv.2]) ps kvs)
   (hD:H D=none) (hz:kvs.length<=100000) (hit0:it≠D)
   (hR:∀s',Inv X pins σ (upd H D (.dK (kvs.foldl (λacc kv=>b5 acc kv.1 kv.2) []))) s'->R (.ok (.ret .none)) s') :
   ∀(k i:Nat) (t:Tok) (s:MU),kvs.length - i=k->i<=kvs.length->Inv X pins σ (upd H D (.dK ((kvs.take i).foldl (λacc kv=>b5 acc kv.1 kv.2) []))) s->s.heap.IsListIter it p i ->
     (∀H',H' it=none->eS X pins H' it)->H it=none->codeAny 0x7 A (.builtin "dict.update.loop" #[[↥D,↥it,.int (i:Nat) t,.none],[]]) R s:=by
 have sameD:∀o,Same H (upd H D o):=λo=>Same.new hD;have hlen:ps.length=kvs.length:=hps.length;have flen:∀(l:List (aP×V)) (acc:List (aP×V)),(l.foldl (λacc kv=>b5 acc kv.1 kv.2) acc).length<=acc.length+l.length:=by
   intro l
   induction l with
   | nil=>intro acc; simp
   | cons x r ih =>
     intro acc;rw[LF];have h1:=ih (b5 acc x.1 x.2);have h2:=fc acc x.1 x.2;simp only[JX]
     lia
 have big:(100000:Nat)<sizeLine:=by decide
 intro k
 induction k with
 | zero =>
   intro i t s hk hi I hit hfp hHit;have e:i=kvs.length:=by lia
   subst e;rw[Jh] at I;let#[its,rv,pl,hz']:=I.list ((sameD _).seq hS);let#[f0,f1,f2,f3,f4,f5]:=hfp (upd H D (.dK (kvs.foldl (λacc kv=>b5 acc kv.1 kv.2) []))) (by rw[aR hit0]; exact hHit);refine codeAny_builtin vY ?_;rw[Around.under_plainId oR _];show wpAny _ A.in1 (pyNext ↥it >>= _) _ _ s;have hl:=rv.length;rw[J7] at hl;refine J8 (wpAny_pyNext_list_end hA hit pl.isList (by simp; lia) λh' eb=>?_);have I1:Inv X pins σ (upd H D (.dK (kvs.foldl (λacc kv=>b5 acc kv.1 kv.2) []))) { s with heap:=h' }:=I.turned (t':=s.toks) (λb o hb e=>eb b o hb e) f0 f1 f3 f4 f5;show wpAny _ _ (Builtin.Dict.addKeywords D [] >>= _) _ _ _;exact J8 (JO (JO (hR _ I1)))
 | succ k ih =>
   intro i t s hk hi I hit hfp hHit;have hlt:i<kvs.length:=by lia
   let#[its,rv,pl,hz']:=I.list ((sameD _).seq hS);have hpi:(ps.map V.ref)[i]?=⇑↥(ps[i]'∅):=by simp [show i<ps.length by lia]
   let#[u,hu,ru]:=rv.get hpi;cases (show u=Value.ref _ from ru);let#[f0,f1,f2,f3,f4,f5]:=hfp (upd H D (.dK ((kvs.take i).foldl (λacc kv=>b5 acc kv.1 kv.2) []))) (by rw[aR hit0]; exact hHit);refine codeAny_builtin vY ?_;rw[Around.under_plainId oR _];show wpAny _ A.in1 (pyNext ↥it >>= _) _ _ s;refine J8 (wpAny_pyNext_list_item hit pl.isList (x:=.ref ps[i]) ↑hu λh' hit' sb=>?_);have I1:Inv X pins σ (upd H D (.dK ((kvs.take i).foldl (λacc kv=>b5 acc kv.1 kv.2) []))) { s with heap:=h' }:=I.turned (t':=s.toks) (λb o hb e=>(sb.2 b hb)\e) f0 f1 f3 f4 f5;have hpair:aJ X.K H ps[i] [kV (kvs[i]).1,(kvs[i]).2]:=re hps ∅ hlt;obtain⟨its2,rv2,⟨o2,ho2,hc2,n2,hd2⟩,_⟩:=I1.tuple ((sameD _)<*hpair);cases rv2 with
   | cons r1 rr =>
     cases rr with
     | cons r2 rr =>
       cases rr
       rename_i ku vu
       refine J8 (KY (J8 (wpAny_tryCatch ?_)));show wpAny _ _ (Builtin.Dict.pairItems (.ref ps[i])) _ _ _;unfold Builtin.Dict.pairItems;refine J8 (Lf (T:="tuple") #[o2,ho2,hc2] ?_);rw[JJ #[]];refine J8 ?_;show wpAny _ _ (load ps[i] >>= _) _ _ _;refine J8 (wpAny_load ho2 ?_);rw[hd2];refine JO (JO ?_);show wpAny _ _ (holding [ku,vu] (dictSet D ku vu)) _ _ _;refine KY ?_;let#[z,hd,vs,rel,dd]:=mR I1.hok aF;have hl1:=flen (kvs.take i) [];have hl2:(kvs.take i).length<=kvs.length:=by rw[Jp]; lia
       simp only[L0,LI] at hl1;have hzv:vs.length<=sizeLine:=by rw[<- rel.length]; exact z
       refine wpAny_dictSet_pairs (hsz:=hzv) (kJ r1) dd λh2 dd2 hs2=>?_;have he:∃q,h2.get? D=⇑q:=by let#[q,_,_,hq,_]:=dd2; show#[q,hq]
       have hl3:(b5 ((kvs.take i).foldl (λacc kv=>b5 acc kv.1 kv.2) []) (kvs[i]).1 (kvs[i]).2).length<=sizeLine:=by
         have:=fc ((kvs.take i).foldl (λacc kv=>b5 acc kv.1 kv.2) []) (kvs[i]).1 (kvs[i]).2
         lia
       have I2:=nO (t':=({ s with heap:=h' }:MU).toks+1) I1 (by rw[aF]; exact True.intro) hs2 he (rf hl3 hd (rel.put (kvs[i]).1 r2) dd2);rw[rW] at I2;have e3:(kvs.take (i+1)).foldl (λacc kv=>b5 acc kv.1 kv.2) []=b5 ((kvs.take i).foldl (λacc kv=>b5 acc kv.1 kv.2) []) (kvs[i]).1 (kvs[i]).2:=by rw[Jr,KD];simp [hlt]
       rw[<- e3] at I2;have hit2:h2.IsListIter it p (i+1):=by let#[oi,hoi,ri]:=hit';show#[oi,(hs2.2 it hit0)\hoi,ri]
       refine JO #[plainId_quiet oR _,?_];have:=ih (i+1) 0 _ ∅ ∅ I2 hit2 hfp hHit;exact this
end
section
variable {X:Cx}
abbrev B7 (K:MW):List V->Hp->VK->Prop:=λxs H Q=>∃(p:MV) (ps:List MV) (kvs:List (aP×V)),xs=[↥p]/\aH K H p (ps.map V.ref)/\Paired (λa (kv:aP×V)=>aJ K H a [kV kv.1,kv.2]) ps kvs/\kvs.length<=100000 /\
 ∀d,H d=none->Q ↥d (upd H d (.dK (kvs.foldl (λacc kv=>b5 acc kv.1 kv.2) [])))
def De (hc:X.calm=true):ay X (.type "dict") (B7 X.K):=by
 intro pins s σ H xs us Q I r h;let#[p,ps,kvs,rfl,hS,hps,hz,q]:=h;let#[u,rfl,ru]:=gu r;cases (show u=Value.ref p from ru);have hA:=I.ok.hd hc;have hD:H s.heap.objs.size=none:=I.hok.fresh (JG _);let#[its,rv,pl,_]:=I.list hS;have hplt:p<s.heap.objs.size:=pl.lt;have I0:Inv X pins σ (upd H s.heap.objs.size (.dK [])) { s with heap:=s.heap.push { cls:=.type "dict",data:=.dict (List.toArray []) } } :=
   I.laid (a:=s.heap.objs.size) (o:=.dK []) (t':=s.toks) (λ_ _ q=>JD _ q) (JG _) (xQ s.heap I.big)
 refine callType_codes (Q₁:=λobj s₁=>obj=↥s.heap.objs.size/\s₁={ s with heap:=s.heap.push { cls:=.type "dict",data:=.dict (List.toArray []) } }) PySem.F.kt_called_dict (PySem.F.kt_typeCall_dict_1 _) PySem.F.entry_dict_init (kt_code_dict_new _ #[7]) ?_;rintro obj s₁ ⟨rfl,rfl⟩;have hnew:(s.heap.push { cls:=.type "dict",data:=.dict (List.toArray []) }).DictOf (ce X.prog X.w) s.heap.objs.size []:=Heap.DictOf.new s.heap;show#[hnew.typeIs,PySem.F.args_dict_init_2 _ _,?_];unfold Builtin.«dict.__init__»;refine J8 ?_;unfold Builtin.Dict.selfAndRest;refine J8 (wpAny_notOrdered_dict hnew.typeIs ?_);show wpAny _ _ (pure (s.heap.objs.size,[Value.ref p])) _ _ _;refine JO ?_;show wpAny _ _ (Builtin.Dict.updateFrom "dict.__init__" s.heap.objs.size ↥p [] .none) _ _ _;unfold Builtin.Dict.updateFrom;let#[o,n,ho,hcl,hdi,hda]:=pl;have ho1:(s.heap.push { cls:=.type "dict",data:=.dict (List.toArray []) }).get? p=⇑o:=JD _ ho;refine J8 (Lf (T:="list") #[o,ho1,hcl] ?_);rw[JJ #[]];refine J8 (F8 (s:={ s with heap:=s.heap.push { cls:=.type "dict",data:=.dict (List.toArray []) } }) ho1 hcl hda hdi hA λh' tk hk=>?_);have I1:Inv X pins σ (upd H s.heap.objs.size (.dK [])) { s with heap:=h',toks:=tk }:=I0.kept hk;rw[JJ 0x1];refine J8 (L' ?_);have ho2:h'.get? p=⇑o:=hk _ _ ho1;refine J8 (Kj (s:={ s with heap:=h',toks:=tk }) (items:=its.toArray) #[o,ho2,hcl,n,hda] ?_);have I2:Inv X pins σ (upd H s.heap.objs.size (.dK [])) { s with heap:=h'.push { cls:=.type "list_iterator",data:=.fields (List.toArray [↥p,.int 0 0]) },toks:=tk }:=I1.kept (t':=tk) λb o e=>JD _ e;have hsz:s.heap.objs.size<h'.objs.size:=by have e:(s.heap.push { cls:=.type "dict",data:=.dict (List.toArray []) }).get? s.heap.objs.size=some { cls:=.type "dict",data:=.dict (List.toArray []) }:=Ja _ rfl;exact JU (hk _ _ e)
 have hit0:h'.objs.size≠s.heap.objs.size:=Kl hsz;have hHit:H h'.objs.size=none:=I.hok.fresh (M1 hsz);refine JO #[plainId_quiet oR _,?_];refine Ga (A:=X.A.in1) (it:=h'.objs.size) hA (Jn hplt) hS hps hD hz hit0 (λs' J=>#[rfl,↥s.heap.objs.size,_,J,rfl,q _ hD]) kvs.length 0 0 _ ∅ (Jd _) ↑I2 #[_,Ja _ rfl,7] (λH' hn=>I1.fpOk (JG _) hn) hHit
def ul:∀(xs:List V) (us:List MT),xs.length=us.length->(∀(i:Nat) (x:V) (u:MT),xs[i]?=⇑x->us[i]?=⇑u->af x u)->aV xs us
 | [],[],_,_=>.nil
 | [],_::_,h,_=>by simp at h
 | _::_,[],h,_=>by simp at h
 | x::xs,u::us,h,k=>.cons (k 0 x u rfl rfl) (ul xs us ↑h λi y v e1 e2=>k (i+1) y v ↑e1 ↑e2)
def uU {P:Program} {w:World} {k:aP} {v:MT} (h:(ce P w).is k v=true):af (kV k) v:=by
 rcases hG (show jM k v=true from h) with⟨i,t,rfl,rfl⟩|⟨x,t,rfl,rfl⟩
 . show#[t,rfl]
 . show#[t,rfl]
def IZ {P:Program} {w:World} {kvs:List (aP×V)} {vs:List (aP×MT)} {acc:Array MT} (rel:KV kvs vs) (h:ItemsOf (λi v=>∃k x,vs[i]?=⇑(k,x)/\(ce P w).is k v=true) acc vs.length) :
   aV (kvs.map λkv=>kV kv.1) acc.toList:=by
 have hl:=rel.length;have el:acc.toList.length=acc.size:=by simp
 have hlen:(kvs.map λkv=>kV kv.1).length=acc.toList.length:=by rw[J7,el,h.1]; exact hl
 refine ul _ _ hlen λi x u e1 e2=>?_;let#[k,y,e3,e4]:=h.2 i u ↑e2;rw[JC] at e1;cases e5:kvs[i]? with
 | none=>rw[e5] at e1; cases e1
 | some kv =>
   rw[e5] at e1;have e1:kV kv.1=x:=↑e1
   have e6:kv.1=k:=by
     have h1:i<kvs.length:=(JF.mp e5).1;have h2:i<vs.length:=by lia
     have e7:=re rel h1 h2;have e8:kvs[i]=kv:=by have:=JF.mp e5; exact this.2
     have e9:vs[i]=(k,y):=by have:=JF.mp e3; exact this.2
     rw[e8,e9] at e7;exact e7.1
   rw[<- e1,e6];exact uU e4
def uX (hc:X.calm=true):ay X (.type "list") (λxs H Q=>∃d kvs,xs=[↥d]/\H d=⇑(.dK kvs)/\∀l,H l=none->Q ↥l (upd H l (.lst (kvs.map λkv=>kV kv.1)))):=by intro pins s σ H xs us Q I r h;let#[d,kvs,rfl,hd,q]:=h;let#[u,rfl,ru]:=gu r;cases (show u=Value.ref d from ru);let#[z,lo,vs,rel,dd]:=mR I.hok hd;have hlen:=rel.length;obtain⟨ep,dat⟩:∃ep,s.heap.DictAt (ce X.prog X.w) d vs ep:=dd.dictAt;refine PySem.W.kdl_call (PySem.W.kdl_dict (knd:=ce X.prog X.w) (kvs:=vs) (ep:=ep) lo) (I.ok.hd hc) dat (by rw[<- hlen]; exact z) λh' tk acc' c' hk hS hit=>?_;have hv:aV (kvs.map λkv=>kV kv.1) acc'.toList:=IZ rel hit;show#[↥s.heap.objs.size,_,I.laid (a:=s.heap.objs.size) (o:=.lst (kvs.map λkv=>kV kv.1)) hk (JG _) #[by rw[J7]; exact z,acc'.toList,c',hv,by simpa using hS],rfl,q _ (I.hok.fresh (JG _))]
end
end L2
namespace L2
open PySem PySem.Spec PyProof.Rows PySem.W
section
variable {prog:Program} {w:World} {A:Around} {E:MT->MU->Prop} {s:MU} {δ:Type} {R:δ->MT->Prop} {a:MV} {D:List (Str×δ)} {k:Str} {tk:Tok} {d:δ}
def wZ (T:KTD.TabOf R s.heap a D):s.TypeIs ↥a "dict":=by let#[_,o,_,_,ho,hc,_]:=T; show#[o,ho,hc.1]
def Ba {Q:MT->MU->Prop} (T:KTD.TabOf R s.heap a D) (hd:KTD.datumAt k D=⇑d) (h:∀v,R d v->Q v { s with toks:=s.toks+1 }) :
   wpAny 0x9 A (getItem ↥a (.str k tk)) Q E s:=by
 have ty:=wZ T;let#[_,o,es,ep,ho,hc,hdt,hr]:=T;unfold getItem
 try with_reducible refine KY ?_
 refine J8 (Lw ty #[] ?_);refine J8 (wpAny_callSpecial?_slot (name:=Str.ofString "__getitem__") ty slot_dict_getitem
   (Ka slot_dict_getitem ty entry_dict_getitem ?_ (args_dict_getitem _ _)))
 show wpAny _ _ (dictGet a (.str k tk) >>= _) _ _ s;refine J8 ?_;unfold dictGet
 try with_reducible refine KY ?_
 refine J8 (wpAny_pyHash_str (J8 (KTD.kt_dictFind_strs (s:={ s with toks:=s.toks+1 }) ho hdt (by obtain⟨l⟩:=es; simpa using hr.exact) ?_)));have hq:∃v,findBy (λk v=>v.isStr k) es k=⇑v/\R d v:=by
   have hf:findBy (λk v=>v.isStr k) es k=(es.toList.find? λe=>e.key.isStr k).map (·.val):=by obtain⟨l⟩:=es;simp [findBy]
   rw[hf];exact hr.find_some hd
 let#[v,hv,hR]:=hq;rw[findBy_of_findIdx?] at hv;cases hi:es.findIdx? λe=>e.key.isStr k with
 | none=>rw[hi] at hv; cases hv
 | some i =>
   rw[hi] at hv;have hv:es[i]?.map (·.val)=⇑v:=hv;refine J8 (wpAny_dictEntries (s:={ s with toks:=s.toks+1 }) ho hdt (JO ?_));show wpAny _ _ _ _ _ _;rw[hv];exact JO #[v,rfl,JO (h v hR)]
end
abbrev rD (K:MW) (d:MV) (rows:List (Str×List V)):Prop :=
 ∃(o:Obj) (es:Array DictEntry) (ep:Nat),K.lookup d=⇑o/\(d==sysModules)=false/\o.ExactDict/\o.data=.dict es ep/\KTD.Rows (λ(xs:List V) v=>∃a,v=↥a/\∀H:Hp,aJ K H a xs) es.toList rows
abbrev Cm (K:MW):R2:=λx y H Q=>∃d rows k xs,x=↥d/\y=.str k/\rD K d rows/\KTD.datumAt k rows=⇑xs/\∀a,aJ K H a xs->Q ↥a H
def Bh {X:Cx}:aN X (Cm X.K):=by
 intro value slice pins s σ H x y v u Q I rx ry h hs;obtain⟨d,rows,k,xs,rfl,rfl,⟨o,es,ep,ho,lo,hc,hd,hr⟩,hk,q⟩:=h;cases (show v=Value.ref d from rx);let#[t,rfl]:=(show ∃t,u=Value.str k t from ry)
 have T:KTD.TabOf (λ(xs:List V) v=>∃a,v=↥a/\∀H:Hp,aJ X.K H a xs) s.heap d rows:=#[lo,o,es,ep,I.kIn d o ho,hc,hd,hr]
 refine tail_any (wZ T) slot_dict_getitem.lookup (Ba T hk λv hv=>?_) hs;let#[a,rfl,hsq]:=hv;show#[↥a,H,I.tok _,rfl,q a (hsq H)]
end L2
namespace L2
open PySem PySem.Spec PyProof.Rows
abbrev rM:V->MT->Bool
 | .non,.none=>true
 | .bl b,.bool c=>b==c
 | .int i,.int j _=>i==j
 | .str x,.str y _=>x==y
 | _,_=>false
def C0:∀{x:V} {v:MT},rM x v=true->af x v:=by
 intro x v h;unfold rM at h;split at h
 . rfl
 . obtain rfl:=beq_iff_eq.mp h; rfl
 . obtain rfl:=beq_iff_eq.mp h; show#[5]
 . obtain rfl:=beq_iff_eq.mp h; show#[5]
 . cases h
abbrev jy:List V->List MT->Bool
 | [],[]=>true
 | x::xs,v::vs=>rM x v&&jy xs vs
 | _,_=>false
def xR:∀{xs:List V} {vs:List MT},jy xs vs=true->aV xs vs
 | [],[],_=>.nil
 | x::xs,v::vs,h=>by simp only[jy,Jf] at h;exact .cons (C0 h.1) (xR h.2)
 | [],_::_,h=>by simp [jy] at h
 | _::_,[],h=>by simp [jy] at h
abbrev pG (K:MW) (xs:List V) (v:MT):Bool:=match v with
 | .ref a=>match K.lookup a with
   | some o=>o.cls==.type "tuple"&&(match o.data with | .seq its _=>decide (its.size<=sizeLine)&&jy xs its.toList|_=>false)
   | none=>false
 | _=>false
def HS {K:MW} (xs:List V) (v:MT) (h:pG K xs v=true):∃a,v=↥a/\∀H:Hp,aJ K H a xs:=by
 unfold pG at h;split at h
 . rename_i a
   split at h
   . rename_i o ho
     rw[Jf] at h;let#[h1,h2]:=h;split at h2
     . rename_i its n hd
       rw[Jf] at h2;show#[a,rfl,λH=>.inr #[o,its,n,ho,beq_iff_eq.mp h1,hd,LR h2.1,xR h2.2]]
     . cases h2
   . cases h
 . cases h
def EI {K:MW} {d:MV} {rows:List (Str×List V)} (h:KTD.tabLook (pG K) (λa=>K.lookup a) d rows=true):rD K d rows:=by
 simp only[KTD.tabLook,Jf] at h;let#[h0,hl]:=h;split at hl
 . rename_i o ho
   simp only[Jf] at hl;obtain⟨⟨⟨e1,e2⟩,e3⟩,e4⟩:=hl;split at e4
   . rename_i es ep hd
     show#[o,es,ep,ho,by simpa using h0,#[beq_iff_eq.mp e1,by simpa using e2,by simpa using e3],hd,KTD.rows_of_look HS e4]
   . cases e4
 . cases hl
end L2
namespace L2
open PySem
abbrev vL:Expr->JM (List V)
 | .Tuple es _ _=>pB es
 | _=>none
def wJ {X:Cx} {e:Expr} {vs:List V} (h:vL e=⇑vs):PE X e (vo λ_ H Q=>Q vs H):=by
 unfold vL at h;split at h
 . exact aw (uL h)
 . cases h
end L2
namespace L2
open PySem PySem.Spec PyProof.Rows
section
variable {prog:Program} {w:World} {A:Around} {E:MT->MU->Prop} {s:MU}
def gx_nextOf_tup {it t:MV} {i:Nat} {items:Array MT} {x:MT} {Q:MT->MU->Prop} (hit:s.heap.IsTupleIter it t i) (ht:s.heap.IsTuple t items) (hx:items[i]?=⇑x)
   (hQ:∀h',h'.IsTupleIter it t (i+1)->Heap.SameBut it s.heap h'->Q x { s with heap:=h' }):wpAny 0x9 A (Builtin.SmallTypes.nextOf ↥it) Q E s:=by
 obtain⟨⟨o,ho,hc,hd⟩,⟨ol,hol,_,nl,hdl⟩⟩:=(#[id hit,ht]:_/\_)
 unfold Builtin.SmallTypes.nextOf; refine J8 (wpAny_callSpecial?_slot (name:=Str.ofString "__next__") hit.typeIs Kq (Ka Kq hit.typeIs Lr ?_ (Lo _)));show wpAny 0x9 _ (field ↥it 0 >>= _) _ _ s; refine J8 (Jt ho hd (x:=↥t) rfl ?_);show wpAny 0x9 _ (if(Value.ref t==Value.none)=true then _ else _) _ _ s; rw[JI (by exact JP)];show wpAny 0x9 _ (field ↥it 1 >>= _) _ _ s; refine J8 (Jt ho hd (x:=.int i 0) rfl ?_);show wpAny 0x9 _ (seqItems? ↥t >>= _) _ _ s; refine J8 (Kk hol hdl ?_); simp only[K3,hx];refine J8 (L9 ho hd 0xB (JO #[x,rfl,JO (hQ _ #[_,KQ _ ho (Obj.isFreed_of_fields (Obj.data_mapFields hd _)),(Obj.cls_mapFields ..)\hc,by rw[Obj.data_mapFields hd]; simp [rawInt]] (Heap.SameBut.update ..))]))
def gx_nextOf_tup_end {it t:MV} {i:Nat} {items:Array MT} {Q:MT->MU->Prop} (hh:A.handled=none) (hit:s.heap.IsTupleIter it t i) (ht:s.heap.IsTuple t items) (hx:items[i]?=none)
   (hE:∀h' e,Heap.ExtBut it s.heap h'->(∃o,h'.get? e=⇑o/\o.cls=.type "StopIteration")->E ↥e { s with heap:=h' }):wpAny 0x9 A (Builtin.SmallTypes.nextOf ↥it) Q E s:=by
 obtain⟨⟨o,ho,hc,hd⟩,⟨ol,hol,_,nl,hdl⟩⟩:=(#[id hit,ht]:_/\_)
 unfold Builtin.SmallTypes.nextOf; refine J8 (wpAny_callSpecial?_slot (name:=Str.ofString "__next__") hit.typeIs Kq (Ka Kq hit.typeIs Lr ?_ (Lo _)));show wpAny 0x9 _ (field ↥it 0 >>= _) _ _ s; refine J8 (Jt ho hd (x:=↥t) rfl ?_);show wpAny 0x9 _ (if(Value.ref t==Value.none)=true then _ else _) _ _ s; rw[JI (by exact JP)];show wpAny 0x9 _ (field ↥it 1 >>= _) _ _ s; refine J8 (Jt ho hd (x:=.int i 0) rfl ?_);show wpAny 0x9 _ (seqItems? ↥t >>= _) _ _ s; refine J8 (Kk hol hdl ?_); simp only[K3,hx];refine J8 (L' (J8 (L9 ho hd 0xB ?_))); show wpAny 0x9 _ (newExc (.type "StopIteration") [] >>= _) _ _ _;refine J8 ?_; simp only[newExc,newTuple]; refine J8 (KL ?_ (by size_fits));refine J8 (m:=firstArgMember _ _) (wpAny_of_eq (a:=Value.none) (by first|rfl|(simp only[firstArgMember]; rfl)) (KL ?_ (by size_fits)));simp only[raiseNew]; refine J8 (wpAny_handled ?_); first|rw[show A.in1.handled=none from hh] | rw[hh]
 refine J8 (JO (wpAny_throw (hE _ _ (((Heap.SameBut.update ..).extBut.push _).push _) #[_,Ja _ rfl,rfl])))
end
variable {w:World}
def yJ {prog:Program} {A:Around} (hh:A.handled=none) (it t:MV) (hne:t≠it) (items:Array MT) :
   Draws prog w A it [it,t] items.size (λi v=>items[i]?=⇑v) (λi h=>h.IsTupleIter it t i/\h.IsTuple t items) where
 live:=λ_ _ z135_=>by obtain⟨⟨o,ho,_⟩,_⟩:=z135_; show#[o,ho]
 frame:=λ_ _ _ z136_ hk=>by obtain⟨⟨o,ho,r⟩,⟨o2,ho2,r2⟩⟩:=z136_; show#[#[o,hk it 0xB o ho,r],#[o2,hk t 0xB o2 ho2,r2]]
 item:=λi s Q E hi z137_ hQ=>by let#[s1,s2]:=z137_; exact gx_nextOf_tup s1 s2 (x:=items[i]) (by simp [hi]) λh' hit' hs'=>hQ _ h' s.toks (by simp [hi]) #[hit',s2.extBut hs'.extBut hne] hs'
 done:=λs Q E z138_ hE=>by let#[s1,s2]:=z138_; exact gx_nextOf_tup_end hh s1 s2 0xB hE
variable {a:MV}
section
variable {X:Cx} {pins:List (MV×Obj)} {σ:St} {H:Hp} {s:MU} {h':Heap}
def Inv.turnedL {t':Nat} {ch:List MV} (I:Inv X pins σ H s) (k:∀b o,b ∉ ch->s.heap.get? b=⇑o->h'.get? b=⇑o) (hf:∀b∈ch,eS X pins H b):Inv X pins σ H { s with heap:=h',toks:=t' }:=by
 have nit:∀b u,H b=⇑u->b ∉ ch:=λb u e z=>by rw[(hf b z).1] at e; cases e
 refine I.step (g':=s.gens) (d':=s.drawn) (ch:=ch) (λb hb=>#[(hf b hb).2.2.2.1,(hf b hb).2.1,(hf b hb).2.2.2.2.1,(hf b hb).2.2.2.2.2]) (λb o _ _ hc e _=>k b o hc e) (λb o _ _ hc e _=>#[o.slots,k b o hc e]) (λ_ _ _ _ n=>n) (λb o hc e=>#[o,k b o hc e]) (λ_ _ e=>e) (λ_ _ _ e=>e) (λb ps e=>#[(List.toArray []),by rw[e]; simp]) (λm hm=>?_) (λb u e=>?_) I.bare
 . let#[o,es,ep,ho,r]:=hm;show#[o,es,ep,k _ _ (λz=>(hf _ z).2.1 rfl) ho,r]
 . have key:∀c,c=b\/H c=⇑(.own b)->c ∉ ch:=λc hc=>by
     rcases hc with z|z
     . subst z; exact nit _ u e
     . exact nit c _ z
   exact(I.hok b u e).stay (λc v hc q=>k c v (key c hc) q) (λ_ q=>q) λ_ _ q=>q
def Inv.turnLaid {t':Nat} {ch:List MV} {o:HO} (I:Inv X pins σ H s) (k:∀b o,b ∉ ch->s.heap.get? b=⇑o->h'.get? b=⇑o) (hf:∀b∈ch,eS X pins H b) (hp:s.heap.objs.size<=a) (new:cM X.prog X.w (upd H a o) h' a o) :
   Inv X pins σ (upd H a o) { s with heap:=h',toks:=t' }:=by
 have nit:∀b u,H b=⇑u->b ∉ ch:=λb u e z=>by rw[(hf b z).1] at e; cases e
 have hn:H a=none:=I.hok.fresh hp;refine I.step (g':=s.gens) (d':=s.drawn) (ch:=ch) (λb hb=>#[(hf b hb).2.2.2.1,(hf b hb).2.1,(hf b hb).2.2.2.2.1,(hf b hb).2.2.2.2.2]) (λb o _ _ hc e _=>k b o hc e) (λb o _ _ hc e _=>#[o.slots,k b o hc e]) (λb u _ q n=>by rw[aR (λz=>by subst z; exact absurd (Jb (JU q) hp) (Ju _))]; exact n) (λb o hc e=>#[o,k b o hc e]) (λb xs q=>by rw[aR (aY q hn)]; exact q) (λb u xs q=>by rw[aR (aY q hn)]; exact q) (λb ps q=>#[(List.toArray []),by rw[aR (aY q hn),q]; simp]) (λm hm=>?_) (λb u e=>?_) I.bare
 . let#[o,es,ep,ho,r]:=hm;show#[o,es,ep,k _ _ (λz=>(hf _ z).2.1 rfl) ho,r]
 . by_cases hb:b=a
   . subst hb;rw[aF] at e;cases e;exact new
   . rw[aR hb] at e;have key:∀c,c=b\/H c=⇑(.own b)->c ∉ ch:=λc hc=>by
       rcases hc with z|z
       . subst z; exact nit _ u e
       . exact nit c _ z
     exact(I.hok b u e).stay (λc v hc q=>k c v (key c hc) q) (λc q=>(aR (aY q hn))\q) λc xs q=>(aR (aY q hn))\q
end
def E1 (l:MV) (items:Array MT) (n:Nat) (dct:JM MV) (sl:Array (JM MT)) :
   Meets (Builtin.«enumerate.__new__» #[[.type "enumerate",↥l],[]]) (λ_ R s=>s.heap.get? l=some { cls:=.type "tuple",dict:=dct,data:=.seq items n,slots:=sl } /\
     R (.ok (.ret ↥(s.heap.push { cls:=.type "tuple_iterator",data:=.fields (List.toArray [↥l,.int 0 0]) }).objs.size))
       { s with heap:=(s.heap.push { cls:=.type "tuple_iterator",data:=.fields (List.toArray [↥l,.int 0 0]) }).push { cls:=.type "enumerate",data:=.fields (List.toArray [.none,.bool false,↥s.heap.objs.size,rawInt 0,.none,.none]) } }) :=
 .of_wp λprog w A R s h=>by
   let#[h0,g0,d0,t0,o0]:=s;let#[hl,h]:=h;have hsub:=sub_enumerate;have hL:Heap.IsTuple (Shared.heap ⟨h0,g0,d0,t0,o0⟩) l items:=#[_,hl,rfl,n,rfl]
   wp_walk using AutoSeq1.wpAny_loadPart' hl
   refine wpAny_stack_any λst=>JO ?_;split
   . rename_i c _ _ _ _ _
     cases (c==Value.type "enumerate") <;> (wp_walk using AutoSeq1.wpAny_loadPart' hl,Kc hL; show#[5,h])
   . wp_walk using AutoSeq1.wpAny_loadPart' hl,Kc hL; show#[5,h]
variable {l:MV}
def BR {prog:Program} {A:Around} {E:MT->MU->Prop} {s:MU} {items:Array MT} {Q:MT->MU->Prop} (hL:s.heap.IsTuple l items)
   (h:∀h',IsEnum h' (s.heap.objs.size+1) s.heap.objs.size 0 .none->h'.IsTupleIter s.heap.objs.size l 0->(∀b o,s.heap.get? b=⇑o->h'.get? b=⇑o)->Q ↥(s.heap.objs.size+1) { s with heap:=h' }) :
   wpAny 0x9 A (call (.type "enumerate") [↥l]) Q E s:=by
 obtain⟨⟨c,dct,dt,sl⟩,hl,hc,n,hd⟩:=hL;cases (show c=.type "tuple" from hc); cases (show dt=.seq items n from hd);refine callType_new F.called_enumerate #[] (F.typeCall_enumerate_1 _) (F.newCall_enumerate_1 _) (λobj=>F.args_object_init_2 obj _) F.entry_enumerate_new (E1 l items n dct sl) #[hl,?_];have hz:(s.heap.push { cls:=.type "tuple_iterator",data:=.fields (List.toArray [↥l,.int 0 0]) }).objs.size=s.heap.objs.size+1:=KJ ..;have he:IsEnum ((s.heap.push { cls:=.type "tuple_iterator",data:=.fields (List.toArray [↥l,.int 0 0]) }).push { cls:=.type "enumerate",data:=.fields (List.toArray [.none,.bool false,↥s.heap.objs.size,rawInt 0,.none,.none]) }) (s.heap.objs.size+1) s.heap.objs.size 0 .none:=by have e:=Ja (s.heap.push { cls:=.type "tuple_iterator",data:=.fields (List.toArray [↥l,.int 0 0]) }) (o:={ cls:=.type "enumerate",data:=.fields (List.toArray [.none,.bool false,↥s.heap.objs.size,rawInt 0,.none,.none]) }) rfl;rw[hz] at e;exact e
 show _/\_;rw[hz];show#[#[_,he,rfl],h _ he #[_,JD _ (Ja _ rfl),7] λb o x=>JD _ (JD _ x)]
abbrev kx (K:MW) (a:MV):It :=
 #[λi H=>∃xs x,aJ K H a xs/\xs[i]?=⇑x,λi H y H'=>∃b,y=↥b/\H b=none/\∀xs x,aJ K H a xs->xs[i]?=⇑x->H'=upd H b (.tup [.int i,x]),λi H=>∃xs,aJ K H a xs/\xs.length=i]
variable {K:MW} {elts:List Expr} {pos:Pos}
def Fn {P:Program} {k:Nat} (a e it:MV) (hne:e≠it):Turn P w K (.Tuple elts k pos) (kx K a) [e,it] e (λi h=>(∃old,IsEnum h e it i old)/\h.IsTupleIter it a i) where
 mem:=by simp
 obj:=λi h st b hb=>by
   obtain⟨⟨old,he⟩,⟨o,ho,hc,hd⟩⟩:=st;rcases JS.mp hb with z|z
   . subst z;show#[_,he,λv z=>by cases (show Data.fields _=Data.cell v from z)]
   . have z:b=it:=↑z
     subst z;show#[o,ho,λv z=>by rw[hd] at z; cases z]
 keep:=λi h h' st kk=>by obtain⟨⟨old,he⟩,⟨o,ho,r⟩⟩:=st;show#[#[old,kk e 0xB _ he],#[o,kk it 0xB o ho,r]]
 item:=by
   intro X hP hw hK hc i pins s σ H E I hf st hg;subst hP hw hK;obtain⟨⟨old,he⟩,hit⟩:=st;let#[xs,x,hq,hx]:=hg;let#[its,rv,p,hz]:=I.tuple hq;have pt:s.heap.IsTuple a its.toArray:=p;let#[u,hu,ru]:=rv.get hx;have hia:a≠it:=λz=>by
     subst z;let#[o1,h1,c1,_]:=hit;let#[o2,h2,c2,_]:=pt;rw[h1] at h2;cases h2;rw[c1] at c2;injection c2 with c2
     exact absurd c2 #[]
   have hea:e ∉ [it,a]:=λz=>by
     rcases JS.mp z with z|z
     . exact hne z
     . have z:e=a:=↑z
       subst z;let#[o2,h2,c2,_]:=pt;rw[he] at h2;cases h2;injection (show Value.type "enumerate"=Value.type "tuple" from c2) with c2
       exact absurd c2 #[]
   have hlt:i<its.toArray.size:=by have:=(JF.mp hu).1;simpa using this
   refine MF (yJ (A:=X.A.in1) (I.ok.hd hc) it a hia its.toArray) he #[hit,pt] hlt hne hea λy h' tk hy hout hst hT hsz hk=>?_;show#[5,Lu hout λh2 he2 hs2=>?_];have hs2:Heap.SameBut e h' h2:=hs2;have hyu:y=u:=by
     have hy:its.toArray[i]?=⇑y:=hy;have:its[i]?=⇑y:=↑hy
     rw[hu] at this;exact(Option.some.inj this).symm
   subst hyu;have helt:e<s.heap.objs.size:=JU he;have hfr:H s.heap.objs.size=none:=I.hok.fresh (JG _);have hnS:s.heap.objs.size≠e:=Kl helt;have hT2:h2.get? s.heap.objs.size=some { cls:=.type "tuple",data:=.seq (List.toArray [.int i tk,y]) }:=(hs2.2 _ hnS)\hT;show#[↥s.heap.objs.size,upd H s.heap.objs.size (.tup [.int i,x]),I.turnLaid (t':=tk+1) (ch:=[e,it]) (λb o hb q=>?_) hf (JG _) ?_,rfl,#[s.heap.objs.size,rfl,hfr,λxs' x' hq' hx'=>?_],#[#[y,by exact_mod_cast he2],?_],λb hb=>?_]
   . have h1:b≠e:=λz=>hb (by simp [z]);have h3:b≠it:=λz=>hb (by simp [z]);exact(hs2.2 b h1).trans (hk b o h1 h3 q)
   . show#[by show 2<=sizeLine; decide,[.int i tk,y],.cons #[tk,rfl] (.cons ru .nil),#[_,hT2,13]]
   . have:=I.tuple_inj hq' hq;subst this;rw[hx] at hx';cases hx';rfl
   . obtain⟨⟨o,ho,r⟩,_⟩:=hst;show#[o,(hs2.2 it hne.symm)\ho,r]
   . have hb0:=(hf b hb).1;rw[aR]
     . exact hb0
     . intro z;subst z;let#[o,ho,_]:=hit;rcases JS.mp hb with z|z
       . exact hnS z
       . have z:s.heap.objs.size=it:=↑z
         exact absurd (JU ho) (by rw[<- z]; exact Ju _)
 done:=by
   intro X hP hw hK hc i pins s σ H E I hf st hg;subst hP hw hK;obtain⟨⟨old,he⟩,hit⟩:=st;let#[xs,hq,hx]:=hg;let#[its,rv,p,hz]:=I.tuple hq;have pt:s.heap.IsTuple a its.toArray:=p;have hl:=rv.length;have hia:a≠it:=λz=>by
     subst z;let#[o1,h1,c1,_]:=hit;let#[o2,h2,c2,_]:=pt;rw[h1] at h2;cases h2;rw[c1] at c2;injection c2 with c2
     exact absurd c2 #[]
   have hi:i=its.toArray.size:=by simp; lia
   refine wpAny_pyNext_enum_endD (yJ (A:=X.A.in1) (I.ok.hd hc) it a hia its.toArray) he (by rw[<- hi]; show#[hit,pt]) λh' eb=>#[rfl,?_]
   exact I.turnedL (t':=s.toks) (ch:=[e,it]) (λb o hb q=>eb b o (λz=>hb (by simp [z])) q) hf
 self:=λ_ _ _ _ _ st h=>by obtain⟨⟨old,he⟩,_⟩:=st;exact LS he h
variable {xs:List V} {tb:TS} {σ:St} {H:Hp}
section
variable {X:Cx}
def wL:bootBuiltins "enumerate"=⇑(.type "enumerate"):=B'
abbrev D1 (K:MW) (ta:TA):TI:=λσ H R=>ta σ H λvs H1=>∃a,vs=[↥a]/\(∃xs,aJ K H1 a xs)/\R (kx K a) H1
def qb {a:Expr} {ta:TA} {p tpos:Pos}{k:Nat} (hg:Gl X "enumerate") (hm:X.mg "enumerate"=none) (ha:PA X [a] ta) (hs:starEach [a] X.env=[(false,eval a X.env)]:=by rfl):PI X (.Tuple elts k tpos) (.Call (.Name "enumerate" p) [a] [] pos) (D1 X.K ta):=by
 intro pins s σ H R I h;refine Call_ (ij I hg hm wL (KE (aQ (ha pos pins s σ H _ I h) λus s1 z139_=>?_) hs rfl));let#[vs,H1,I1,r1,q1]:=z139_;obtain⟨a,e,⟨xs,hq⟩,q⟩:=q1;subst e;cases r1 with
 | cons r rr =>
   cases rr;cases r;let#[its,rv,p,hz]:=I1.tuple hq;refine BR (show s1.heap.IsTuple a its.toArray from p) λh' he hit hk=>?_;refine LS he ?_;show#[s1.heap.objs.size+1,[s1.heap.objs.size+1,s1.heap.objs.size],4,H1,rfl,I1.kept (t':=s1.toks) hk,Fn a (s1.heap.objs.size+1) s1.heap.objs.size (Nat.succ_ne_self _),#[#[.none,he],hit],λb hb=>?_,q];rcases JS.mp hb with z|z
   . subst z;exact I1.fpOk (Kf _) (I1.hok.fresh (Kf _))
   . have z:b=s1.heap.objs.size:=↑z
     subst z;exact I1.fpOk (JG _) (I1.hok.fresh (JG _))
def tZ {g:TG} {D:cj} (Pv:Nat->St->Hp->Prop) (h0:Pv 0 σ H) (hl:∀i σ H,i<=xs.length->Pv i σ H->aJ K H a xs)
   (hs:∀i x σ H b,xs[i]?=⇑x->Pv i σ H->H b=none->g ↥b σ (upd H b (.tup [.int i,x])) λσ2 H2=>tb { D with nx:=Pv (i+1),ct:=Pv (i+1),bk:=D.nx } σ2 H2) (hd:∀σ H,Pv xs.length σ H->D.nx σ H) :
   ∃W:Nat->Nat->St->Hp->Prop,(∃m,W 0 m σ H)/\∀i m σ H,W i m σ H->((kx K a).stop i H/\D.nx σ H)\/((kx K a).go i H/\∃N:St->Hp->Prop,(∀σ' H',N σ' H'->∃m',m'<m/\W (i+1) m' σ' H')/\∀x H',(kx K a).yld i H x H'->g x σ H' λσ2 H2=>tb { D with nx:=N,ct:=N,bk:=D.nx } σ2 H2):=by
 show#[λi m σ H=>m=xs.length - i/\i<=xs.length/\Pv i σ H,#[xs.length,by simp,Jd _,h0],?_];rintro i m σ H ⟨rfl,hi,p⟩;have q:=hl i σ H hi p;by_cases hlt:i<xs.length
 . refine .inr #[#[xs,xs[i],q,by simp [hlt]],Pv (i+1),λσ' H' p'=>#[xs.length - (i+1),∅,rfl,hlt,p'],λx H' y=>?_];let#[b,rfl,hb,y]:=y;rw[y xs xs[i] q (by simp [hlt])];exact hs i xs[i] σ H b (by simp [hlt]) p hb
 . have e:i=xs.length:=by lia
   subst e;exact .inl #[#[xs,q,rfl],hd σ H p]
end
section
variable {X:Cx} {pins:List (MV×Obj)} {σ:St} {H:Hp} {s:MU}
def Inv.freeze {d:MV} {kvs:List (aP×V)} (I:Inv X pins σ H s) (e:H d=⇑(.dK kvs)):∃o,s.heap.get? d=⇑o/\Inv X pins σ (upd H d (.frz o (.dK kvs))) s:=by
 obtain⟨z,hd,vs,rel,⟨o,es,ep,ho,r⟩⟩:=I.hok d _ e;show#[o,ho,?_];have nd:∀b u,H b=⇑u->u≠.dK kvs->b≠d:=λb u q n z=>by subst z;rw[e] at q;cases q;exact n rfl
 refine I.step (g':=s.gens) (t':=s.toks) (d':=s.drawn) (h':=s.heap) (ch:=[]) (λ_ z=>nomatch z) (λb o _ _ _ q _=>q) (λb o _ _ _ q _=>#[o.slots,q]) (λb o _ _ n=>?_) (λb o _ q=>#[o,q]) (λb xs q=>?_) (λb o u q=>?_) (λb ps q=>#[(List.toArray []),?_]) (λm hm=>hm) (λb u q=>?_) I.bare
 . rw[aR (λz=>by subst z; rw[e] at n; cases n)];exact n
 . rw[aR (nd b _ q (by intro z; cases z))];exact q
 . rw[aR (nd b _ q (by intro z; cases z))];exact q
 . rw[aR (nd b _ q (by intro z; cases z)),q];simp
 . have own:∀c b,H c=⇑(.own b)->(upd H d (.frz o (.dK kvs))) c=⇑(.own b):=λc b q=>(aR (nd c _ q (by intro z; cases z)))\q;have tup:∀c xs,H c=⇑(.tup xs)->(upd H d (.frz o (.dK kvs))) c=⇑(.tup xs):=λc xs q=>(aR (nd c _ q (by intro z; cases z)))\q;by_cases hb:b=d
   . subst hb;rw[aF] at q;cases q;show#[ho,(I.hok _ _ e).stay (λ_ _ _ q=>q) (λc q=>own c _ q) tup]
   . rw[aR hb] at q;exact(I.hok b u q).stay (λ_ _ _ q=>q) (λc q=>own c _ q) tup
end
def FZ:entryFor table "dict_itemiterator.__iter__"=⇑Builtin.«dict_keyiterator.__iter__»:=entryFor_alias (id':="dict_keyiterator.__iter__") (by kernel_rfl) (by first|rfl|decide +kernel|(unfold String.splitOn; simp +decide [String.splitOnAux])) 0xA (by kernel_rfl)
abbrev j9 (o:Obj) (d:MV) (kvs:List (aP×V)):It :=
 #[λi H=>H d=⇑(.frz o (.dK kvs))/\i<kvs.length,λi H y H'=>∃b,y=↥b/\H b=none/\∀kv,kvs[i]?=⇑kv->H'=upd H b (.tup [kV kv.1,kv.2]),λi H=>H d=⇑(.frz o (.dK kvs))/\i=kvs.length]
def qg {X:Cx} {pins:List (MV×Obj)} {s:MU} {o:Obj} {d:MV} {kvs:List (aP×V)} (I:Inv X pins σ H s) (e:H d=⇑(.frz o (.dK kvs))) {es0:Array DictEntry} {ep:Nat} (hep:o.data=.dict es0 ep) :
   ∃vs,KV kvs vs/\s.heap.DictAt (ce X.prog X.w) d vs ep:=by
 obtain⟨h1,z,hd,vs,rel,⟨o',es,ep',ho,hx,hdat,r⟩⟩:=I.hok d _ e;rw[h1] at ho;cases ho;rw[hep] at hdat;cases hdat;show#[vs,rel,o,es0,h1,hx,hep,r]
def Dd {P:Program} {k:Nat} (o:Obj) (d it:MV) (kvs:List (aP×V)) (es0:Array DictEntry) (ep:Nat) (hep:o.data=.dict es0 ep) :
   Turn P w K (.Tuple elts k pos) (j9 o d kvs) [it] it (λi h=>∃ok ov,IsItemIter h it d i kvs.length ep ok ov) where
 mem:=by simp
 obj:=λi h st b hb=>by
   let#[ok,ov,he]:=st;have z:b=it:=↑hb
   subst z;show#[_,he,λv z=>by cases (show Data.fields _=Data.cell v from z)]
 keep:=λi h h' st kk=>by let#[ok,ov,he]:=st;show#[ok,ov,kk it 0xB _ he]
 item:=by
   intro X hP hw hK hc i pins s σ H E I hf st hg;subst hP hw hK;let#[ok,ov,he]:=st;let#[hfz,hi]:=hg;let#[vs,rel,hD]:=qg I hfz hep;have hlen:kvs.length=vs.length:=KV.length rel;have hi':i<vs.length:=by lia
   have rk:kvs[i].1=vs[i].1/\af kvs[i].2 vs[i].2:=re rel hi hi';refine wpAny_pyNext_items_item (knd:=ce X.prog X.w) (k:=vs[i].1) (v:=vs[i].2) (kvs:=vs) (by rw[<- hlen]; exact he) hD (by simp [hi']) λkey h' hkey hout hT hsz hk=>?_;show#[5,wpAny_letOwnedTupleGo_items hout λh2 he2 hs2=>?_];have hs2:Heap.SameBut it h' h2:=hs2;have hilt:it<s.heap.objs.size:=JU he;have hnS:s.heap.objs.size≠it:=Kl hilt;have hfr:H s.heap.objs.size=none:=I.hok.fresh (JG _);have hT2:h2.get? s.heap.objs.size=some { cls:=.type "tuple",data:=.seq (List.toArray [key,vs[i].2]) }:=(hs2.2 _ hnS)\hT;show#[↥s.heap.objs.size,upd H s.heap.objs.size (.tup [kV kvs[i].1,kvs[i].2]),I.turnLaid (t':=s.toks) (ch:=[it]) (λb o hb q=>?_) hf (JG _) ?_,rfl,#[s.heap.objs.size,rfl,hfr,λkv hkv=>?_],#[4,by rw[hlen]; exact he2],λb hb=>?_]
   . have h1:b≠it:=λz=>hb (by simp [z]);exact(hs2.2 b h1).trans (hk b o h1 q)
   . show#[by show 2<=sizeLine; decide,[key,vs[i].2],.cons (by rw[rk.1]; exact uU hkey) (.cons rk.2 .nil),#[_,hT2,13]]
   . have:kvs[i]=kv:=by simpa [hi] using hkv
     rw[<- this]
   . have z:b=it:=↑hb
     subst z;rw[aR hnS.symm];exact(hf _ hb).1
 done:=by
   intro X hP hw hK hc i pins s σ H E I hf st hg;subst hP hw hK;let#[ok,ov,he]:=st;let#[hfz,hi]:=hg;let#[vs,rel,hD]:=qg I hfz hep;have hlen:kvs.length=vs.length:=KV.length rel;refine wpAny_pyNext_items_end (knd:=ce X.prog X.w) (kvs:=vs) (I.ok.hd hc) (by rw[<- hlen]; exact he) hD (by simp; lia) λh' eb=>#[rfl,?_]
   exact I.turnedL (t':=s.toks) (ch:=[it]) (λb o hb q=>eb b o (λz=>hb (by simp [z])) q) hf
 self:=λA i s Q E st h=>by
   let#[ok,ov,he]:=st;have hT:s.TypeIs ↥it "dict_itemiterator":=#[_,he,rfl]
   exact wpAny_pyIter_slot hT Lk (Ka Lk hT FZ (show wpAny _ _ (ret ↥it) _ _ s from JO #[5,"dict_itemiterator",_,hT,F.slot_dict_itemiterator_next.lookup,h]) (F.args_dict_itemiterator_iter_1 _))
section
variable {X:Cx}
abbrev DW (td:TE):TI:=λσ H R=>td σ H λx H1=>∃d kvs,x=↥d/\((H1 d=⇑(.dK kvs)/\∀o,R (j9 o d kvs) (upd H1 d (.frz o (.dK kvs))))\/∃o,H1 d=⇑(.frz o (.dK kvs))/\R (j9 o d kvs) H1)
def yG {l:Expr} {td:TE} {apos cpos tpos:Pos} {k:Nat} (hl:PE X l td) (hbase:attributeBase l "items" X.env (eval l X.env)=eval l X.env:=by rfl) (hline:(apos.endLine==cpos.line)=true:=by rfl) :
   PI X (.Tuple elts k tpos) (.Call (.Attribute l "items" apos) [] [] cpos) (DW td):=by
 intro pins s σ H R I h;refine ME hbase hline (aQ (hl pins s σ H _ I h) λv s1 z140_=>?_);let#[x,H1,I1,r1,q1]:=z140_;let#[d,kvs,rfl,q1]:=q1;cases r1;have key:∃o H2,Inv X pins σ H2 s1/\H2 d=⇑(.frz o (.dK kvs))/\R (j9 o d kvs) H2:=by
   rcases q1 with⟨e,q⟩|⟨o,e,q⟩
   . let#[o,ho,I2]:=I1.freeze e;show#[o,_,I2,aF,q o]
   . show#[o,H1,I1,e,q]
 let#[o,H2,I2,e2,q]:=key;let#[ho,z,hd,vs,rel,dd]:=I2.hok d _ e2;let#[o',es,ep,ho',hx,hdat,r]:=id dd;rw[ho] at ho';cases ho';show#["dict","dict.items",MH,MI,PySem.F.type_dict_items,dd.typeIs,λb q=>?_,Calls.callWith_builtin rfl (PySem.evalArgs_none ?_)]
 . cases q;show#[o,ho,hx.2.1]
 refine call_meetsIn MI dd.typeIs PySem.F.entry_dict_items (PySem.F.args_dict_items_1 _) (meets_dict_items (ce X.prog X.w) d hd) #[#[vs,dd],?_];have I3:Inv X pins σ H2 { s1 with heap:=s1.heap.push { cls:=.type "dict_items",data:=.fields (List.toArray [↥d]) } }:=I2.kept (t':=s1.toks) λb o e=>JD _ e;let#[vs3,rel3,hD3]:=qg I3 e2 hdat;refine wpAny_pyIter_items (knd:=ce X.prog X.w) (kvs:=vs3) (ep:=ep) #[_,Ja _ rfl,7] hD3 ?_;have hlen:kvs.length=vs3.length:=KV.length rel3;rw[<- hlen];generalize hh3:s1.heap.push { cls:=.type "dict_items",data:=.fields (List.toArray [↥d]) }=h3 at I3 ⊢;show#[h3.objs.size,[h3.objs.size],4,H2,rfl,I3.kept (t':=s1.toks) λb o e=>JD _ e,Dd o d h3.objs.size kvs es ep hdat,#[4,Ja _ rfl],λb hb=>?_,q];have z:b=h3.objs.size:=↑hb
 subst z;exact I3.fpOk (JG _) (I3.hok.fresh (JG _))
def ug {o:Obj} {d:MV} {kvs:List (aP×V)} {g:TG} {D:cj} (Pv:Nat->St->Hp->Prop) (h0:Pv 0 σ H) (hl:∀i σ H,i<=kvs.length->Pv i σ H->H d=⇑(.frz o (.dK kvs)))
   (hs:∀i kv σ H b,kvs[i]?=⇑kv->Pv i σ H->H b=none->g ↥b σ (upd H b (.tup [kV kv.1,kv.2])) λσ2 H2=>tb { D with nx:=Pv (i+1),ct:=Pv (i+1),bk:=D.nx } σ2 H2) (hd:∀σ H,Pv kvs.length σ H->D.nx σ H) :
   ∃W:Nat->Nat->St->Hp->Prop,(∃m,W 0 m σ H)/\∀i m σ H,W i m σ H->((j9 o d kvs).stop i H/\D.nx σ H)\/((j9 o d kvs).go i H/\∃N:St->Hp->Prop,(∀σ' H',N σ' H'->∃m',m'<m/\W (i+1) m' σ' H')/\∀x H',(j9 o d kvs).yld i H x H'->g x σ H' λσ2 H2=>tb { D with nx:=N,ct:=N,bk:=D.nx } σ2 H2):=by
 show#[λi m σ H=>m=kvs.length - i/\i<=kvs.length/\Pv i σ H,#[kvs.length,by simp,Jd _,h0],?_];rintro i m σ H ⟨rfl,hi,p⟩;have q:=hl i σ H hi p;by_cases hlt:i<kvs.length
 . refine .inr #[#[q,hlt],Pv (i+1),λσ' H' p'=>#[kvs.length - (i+1),∅,rfl,hlt,p'],λx H' y=>?_];let#[b,rfl,hb,y]:=y;rw[y kvs[i] (by simp [hlt])];exact hs i kvs[i] σ H b (by simp [hlt]) p hb
 . have e:i=kvs.length:=by lia
   subst e;exact .inl #[#[q,rfl],hd σ H p]
end
section
variable {X:Cx} {o e f:Expr} {apos cpos:Pos} {td ty tx:TE}
abbrev Hz (td ty tx:TE):TE:=λσ H Q=>td σ H λx H1=>∃a,x=↥a/\IsD H1 a/\ty σ H1 λy H2=>tx σ H2 λz H3=>∃kvs k,H3 a=⇑(.dK kvs)/\y=kV k/\kvs.length<sizeLine /\
 (∀v,bf kvs k=⇑v->Q v H3)/\(bf kvs k=none->Q z (upd H3 a (.dK (b5 kvs k z))))
def IK (ho:PE X o td) (he:PE X e ty) (hf:PE X f tx) (m:M2 X o "setdefault" apos e f cpos):PE X (.Call (.Attribute o "setdefault" apos) [e,f] [] cpos) (Hz td ty tx):=by
 intro pins s σ H Q I h;refine wpAny_Call_method m.base m.few m.line MH Lp PySem.F.type_dict_setdefault (aQ (ho pins s σ H _ I h) λu s1 z141_=>?_);let#[x,H1,I1,rx,a,ex,d,q1]:=z141_;subst ex;obtain rfl:u=Value.ref a:=rx;let#[t1,t2,_]:=Co I1 d;show#[t1,t2,?_];rw[m.trees];refine Calls.callWith_builtin rfl (Calls.evalArgs_plain (Calls.spliced_cons (aQ (he pins s1 σ H1 _ I1 q1) λiv s2 z142_=>z142_.e λy H2 I2 ry q2=>Calls.spliced_cons (aQ (hf pins s2 σ H2 _ I2 q2) λfv s3 ⟨z,H3,I3,rz,kvs,k,ea,ey,hl,q3,q4⟩=>Calls.spliced_nil ?_))));subst ey;let#[hz,hd,vs,rel,dd]:=mR I3.hok ea;refine call_meetsIn Lp dd.typeIs PySem.F.entry_dict_setdefault (PySem.F.args_dict_setdefault_3 _ _ _) (kt_meets_setdefault (ce X.prog X.w) a (kJ ry) hd fv) #[vs,dd,by rw[<- rel.length]; exact hz,λv hv=>?_,λhn h' dd' hs=>?_]
 . have rv:=rel.val k;rw[hv] at rv;cases l:bf kvs k with
   | none=>rw[l] at rv; exact absurd rv (by intro z; cases z)
   | some v' =>
     rw[l] at rv;show#[v',H3,I3.tok _,rv,q3 v' l]
 . have rv:=rel.val k;rw[hn] at rv;have l:bf kvs k=none:=by
     cases l:bf kvs k with
     | none=>rfl
     | some v'=>rw[l] at rv; exact absurd rv (by intro z; cases z)
   have hex:∃q,h'.get? a=⇑q:=by let#[q,_,_,hq,_]:=dd'; show#[q,hq]
   have hlp:(b5 kvs k z).length<=sizeLine:=by have:=fc kvs k z; lia
   show#[z,_,nO I3 (by rw[ea]; exact True.intro) hs hex (rf hlp hd (rel.put k rz) dd'),rz,q4 l]
end
abbrev kE (hi:Int) (n:Nat):It:=#[λi _=>i<n,λi H x H'=>H'=H/\x=.int (hi - i),λi _=>n<=i]
def Do {P:Program} {tg:Expr} (it:MV) (hi:Int) (n:Nat):Turn P w K tg (kE hi n) [it] it (λi h=>IsRangeIter h it (hi+(i:Nat) * (-1)) ((n:Int) - (i:Nat)) (-1)) where
 mem:=by simp
 obj:=λi h st b hb=>by
   have e:b=it:=↑hb
   subst e;show#[_,st,λv z=>by cases (show Data.fields _=Data.cell v from z)]
 keep:=λi h h' st k=>k it 0xB _ st
 item:=by
   intro X hP hw hK hc i pins s σ H E I hf st hg;subst hP hw hK;refine(Walks.range (prog:=X.prog) (w:=X.w) (I.ok.hd hc) it hi (-1) n).item i s _ _ hg st λv h' tk hv st' kk=>?_;let#[t,rfl]:=hv;have I1:Inv X pins σ H { s with heap:=h',toks:=tk }:=I.turnedL (ch:=[it]) (λb o hb e=>kk b o hb e) hf;have e:hi+(i:Int) * (-1)=hi - (i:Int):=by lia
   show#[5,lK (s:={ s with heap:=h',toks:=tk }) (n:="range_iterator") st' rfl rfl #[] #[.int (hi - i),H,I1,#[t,by rw[e]],#[7],st',λb hb=>(hf b hb).1]]
 done:=by intro X hP hw hK hc i pins s σ H E I hf st hg;subst hP hw hK;exact wpAny_pyNext_range_end (I.ok.hd hc) st (by have:n<=i:=hg; lia) λh' eb=>#[rfl,I.turnedL (t':=s.toks) (ch:=[it]) (λb o hb e=>eb b o (λz=>hb (by simp [z])) e) hf]
 self:=λ_ _ _ _ _ st h=>wpAny_pyIter_rangeiter st h
def yH (a b:Int):Builtin.Range.rangeSize a b (-1)=if b<a then a - b else 0:=by
 unfold Builtin.Range.rangeSize;rw[JI #[]];have:(-(-1):Int)=1:=by decide
 rw[this];rw[Int.ediv_one];by_cases h:b<a
 . rw[JJ h,JJ h]; lia
 . rw[JI h,JI h]
def HE {a b:Int} (ha:-(2 ^ 60)<=a) (ha':a<2 ^ 60) (hb:-(2 ^ 60)<=b) (hb':b<2 ^ 60):Builtin.Range.small a b (-1)=true:=by
 unfold Builtin.Range.small;rw[yH];simp only[Builtin.Range.rangeFitsLong,Jf,MP,JL,LP,show ¬ ((-1:Int) > 0) by decide,if_false];by_cases h:b<a
 . simp only[JJ h]; lia
 . simp only[JI h]; lia
variable {n:Nat}
section
variable {X:Cx} {tg:Expr}
abbrev EA (ta:TA):TI:=λσ H R=>ta σ H λvs H1=>∃i j:Int,vs=[.int i,.int j,.int (-1)]/\(-(2 ^ 60)<=i/\i<2 ^ 60/\-(2 ^ 60)<=j/\j<2 ^ 60)/\R (kE i (i - j).toNat) H1
def uc {a b c:Expr} {ta:TA} {p:Pos}(hg:Gl X "range") (hm:X.mg "range"=none) (ha:PA X [a,b,c] ta) (hs:starEach [a,b,c] X.env=(false,eval a X.env)::starEach [b,c] X.env:=by rfl) (hs2:(backTo pos (starEach [b,c] X.env)).any (·.1)=false:=by rfl) :
   PI X tg (.Call (.Name "range" p) [a,b,c] [] pos) (EA ta):=by
 intro pins s σ H R I h;refine Call_ (ij I hg hm boot_range (KE (aQ (ha pos pins s σ H _ I h) λus s1 z144_=>?_) hs hs2));let#[vs,H1,I1,r1,q1]:=z144_;obtain⟨i,j,e,⟨q1,q2,q3,q4⟩,q⟩:=q1;subst e;cases r1 with
 | cons r rr =>
   cases rr with
   | cons r' rr =>
     cases rr with
     | cons r'' rr =>
       cases rr;let#[t,rfl]:=r;let#[t',rfl]:=r';let#[t'',rfl]:=r'';refine call_range_3 #[] ?_ (.inl (PyProof.noPylong_small ∅));refine wpAny_pyIter_range (IsRange.new ..) (HE q1 q2 q3 q4) ?_;have I2:Inv X pins σ H1 { s1 with heap:=s1.heap.push { cls:=.type "range",data:=.fields (List.toArray [.int i t,.int j t',.int (-1) t'']) },toks:=s1.toks }:=I1.kept λb o e=>JD _ e;show#[_,[(s1.heap.push { cls:=.type "range",data:=.fields (List.toArray [.int i t,.int j t',.int (-1) t'']) }).objs.size],4,H1,rfl,I2.kept (t':=s1.toks) λb o e=>JD _ e,Do _ i (i - j).toNat,?_,λb hb=>?_,q]
       . have e1:i+((0:Nat):Int) * (-1)=i:=by lia
         have e2:(((i - j).toNat:Nat):Int) - ((0:Nat):Int)=Builtin.Range.rangeSize i j (-1):=by rw[yH]; split <;> lia
         show IsRangeIter _ _ (i+((0:Nat):Int) * (-1)) ((((i - j).toNat:Nat):Int) - ((0:Nat):Int)) (-1);rw[e1,e2];exact Ja _ rfl
       . have e:b=(s1.heap.push { cls:=.type "range",data:=.fields (List.toArray [.int i t,.int j t',.int (-1) t'']) }).objs.size:=↑hb
         subst e;exact I2.fpOk (JG _) (I2.hok.fresh (JG _))
def GV {hi:Int} {g:TG} {D:cj} (Pv:Nat->St->Hp->Prop) (h0:Pv 0 σ H) (hs:∀i σ H,i<n->Pv i σ H->g (.int (hi - i)) σ H λσ2 H2=>tb { D with nx:=Pv (i+1),ct:=Pv (i+1),bk:=D.nx } σ2 H2) (hd:∀σ H,Pv n σ H->D.nx σ H) :
   ∃W:Nat->Nat->St->Hp->Prop,(∃m,W 0 m σ H)/\∀i m σ H,W i m σ H->((kE hi n).stop i H/\D.nx σ H)\/((kE hi n).go i H/\∃N:St->Hp->Prop,(∀σ' H',N σ' H'->∃m',m'<m/\W (i+1) m' σ' H')/\∀x H',(kE hi n).yld i H x H'->g x σ H' λσ2 H2=>tb { D with nx:=N,ct:=N,bk:=D.nx } σ2 H2):=by
 show#[λi m σ H=>m=n - i/\i<=n/\Pv i σ H,#[n,by simp,Jd _,h0],?_];rintro i m σ H ⟨rfl,hi',p⟩;by_cases hlt:i<n
 . refine .inr #[hlt,Pv (i+1),λσ' H' p'=>#[n - (i+1),∅,rfl,hlt,p'],λx H' y=>?_];let#[e,y]:=y;subst e y;exact hs i σ _ hlt p
 . have e:i=n:=by lia
   subst e;exact .inl #[JG _,hd σ H p]
end
def DX {X:Cx} {st:Stmt} {rest:List Stmt} {t u:TS} (h1:PS X st t) (h2:dn X rest u):dn X (st::rest) (λD σ H=>∃M:St->Hp->Prop,t { D with nx:=M } σ H/\∀σ' H',M σ' H'->u D σ' H'):=by
 intro pins s σ H D I h;let#[M,h,hm]:=h;refine M3 (aQ (h1 pins s σ H { D with nx:=M } I h) λf s1 q=>?_);cases f with
 | next =>
   let#[σ',H',I',q]:=q;exact h2 pins s1 σ' H' D I' (hm _ _ q)
 | ret v=>exact q
 | brk=>exact q
 | cont=>exact q
abbrev ag (n:Nat) (d:PyData):Prop:=PyData.canLay0 d=true/\PyData.depth d<=n
def ag.int (i:Int):ag n (.int i):=#[by unfold PyData.canLay0; rfl,by unfold PyData.depth; exact Jd _]
def ag.bool (b:Bool):ag n (.bool b):=#[by unfold PyData.canLay0; rfl,by unfold PyData.depth; exact Jd _]
def ag.none :ag n .none:=#[by unfold PyData.canLay0; rfl,by unfold PyData.depth; exact Jd _]
def ag.str {x:Str} (h:PyData.strOk x=true):ag n (.str x):=#[by unfold PyData.canLay0; exact h,by unfold PyData.depth; exact Jd _]
def sO {n:Nat}:∀{ds:List PyData},(∀d∈ds,ag n d)->PyData.canLayAll0 ds=true/\PyData.depthAll ds<=n
 | [],_=>#[by unfold PyData.canLayAll0; rfl,by unfold PyData.depthAll; exact Jd _]
 | d::ds,h=>by
   have h1:=h d Je;have h2:=sO (λx hx=>h x (Jc _ hx));constructor
   . unfold PyData.canLayAll0; rw[h1.1,h2.1]; rfl
   . unfold PyData.depthAll; exact Nat.max_le.mpr #[h1.2,h2.2]
variable {ds:List PyData}
def ag.list (h:∀d∈ds,ag n d):ag (n+1) (.list ds):=by have h2:=sO h;show#[by unfold PyData.canLay0; exact h2.1,by unfold PyData.depth; have:=h2.2; lia]
def ag.tuple (h:∀d∈ds,ag n d):ag (n+1) (.tuple ds):=by have h2:=sO h;show#[by unfold PyData.canLay0; exact h2.1,by unfold PyData.depth; have:=h2.2; lia]
def ag.shaped {n:Nat} {d:PyData} (h:ag n d) (hn:n<=64):SeqAt.shaped d=true:=by unfold SeqAt.shaped;rw[h.1,Jg (Jo h.2 hn)];rfl
variable {d:PyData}
def ag.refl (h:ag n d):PyData.eqv d d=true:=SeqAt.eqv_refl d h.1
def ag.mono {m:Nat}(h:ag n d) (hn:n<=m):ag m d:=#[h.1,Jo h.2 hn]
def CO {x y:V} {Q:VK} (hn:n<=64) (l:ag n d) (hx:DatV K H d x) (hy:DatV K H d y) (q:Q (.bl true) H):rS K x y H Q :=
 #[d,d,hx,hy,l.shaped hn,l.shaped hn,by rw[l.refl]; exact q]
def jR {x y:V} {Q:VK} (hn:n<=64) (l:ag n d) (hx:DatV K H d x) (hy:DatV K H d y) (q:Q (.bl false) H):uP K x y H Q :=
 #[d,d,hx,hy,l.shaped hn,l.shaped hn,by rw[l.refl]; exact q]
def bO (h:aH K H a xs) (hd:DatAll K H ds xs):DatV K H (.list ds) ↥a:=by unfold DatV; show#[a,xs,rfl,h,hd]
def gP (h:aJ K H a xs) (hd:DatAll K H ds xs):DatV K H (.tuple ds) ↥a:=by unfold DatV; show#[a,xs,rfl,h,hd]
def cx (i:Int):DatV K H (.int i) (.int i):=by unfold DatV; rfl
def Gr (b:Bool):DatV K H (.bool b) (.bl b):=by unfold DatV; rfl
def dQ (x:Str):DatV K H (.str x) (.str x):=by unfold DatV; rfl
def pK :DatV K H .none .non:=by unfold DatV; rfl
def bK :DatAll K H [] []:=by unfold DatAll; rfl
def ck {x:V} (h:DatV K H d x) (hs:DatAll K H ds xs):DatAll K H (d::ds) (x::xs):=by unfold DatAll; show#[x,xs,rfl,h,hs]
mutual
theorem DatV.mono {K:MW} {H H':Hp} (e:Same H H'):∀(d:PyData) (v:V),DatV K H d v->DatV K H' d v
 | .none,v,h=>by unfold DatV at h ⊢; exact h
 | .bool b,v,h=>by unfold DatV at h ⊢; exact h
 | .int i,v,h=>by unfold DatV at h ⊢; exact h
 | .str x,v,h=>by unfold DatV at h ⊢; exact h
 | .list ds,v,h=>by unfold DatV at h ⊢;let#[a,xs,rfl,hq,hd]:=h;show#[a,xs,rfl,e.seq hq,DatAll.mono e ds xs hd]
 | .tuple ds,v,h=>by unfold DatV at h ⊢;let#[a,xs,rfl,hq,hd]:=h;show#[a,xs,rfl,e<*hq,DatAll.mono e ds xs hd]
 | .dict _,v,h=>by unfold DatV at h; exact h.elim
theorem DatAll.mono {K:MW} {H H':Hp} (e:Same H H'):∀(ds:List PyData) (xs:List V),DatAll K H ds xs->DatAll K H' ds xs
 | [],xs,h=>by unfold DatAll at h ⊢; exact h
 | d::ds,xs,h=>by unfold DatAll at h ⊢;let#[x,r,rfl,hd,hds]:=h;show#[x,r,rfl,DatV.mono e d x hd,DatAll.mono e ds r hds]
end
abbrev ers (l:MV) (H:Hp):Hp:=λb=>if b=l then none else H b
def aU {b:MV}(h:b≠l):ers l H b=H b:=by unfold ers; rw[JI h]
def bT :Same (ers l H) H:=λb o h=>by
 unfold ers at h;split at h
 . cases h
 . exact h
def dH {o:HO}:ers l (upd H l o)=ers l H:=by funext b;unfold ers upd;split <;> rfl
def Same.ers {l:MV} {H H':Hp} (e:Same H H'):Same (ers l H) (ers l H'):=λb o h=>by
 unfold L2.ers at h ⊢;split at h
 . cases h
 . rename_i hb
   rw[JI hb];exact e b o h
def ixI {i:Int} (h0:0<=i) (h:i<n):dM n i=⇑i.toNat:=by unfold dM;rw[JJ h0,JJ h]
def tO {cs:List Int} {i:Int} (h0:0<=i) (h:i<cs.length):bo (cs.map V.int) i=⇑(V.int (cs.getD i.toNat 0)):=by
 let#[j,rfl]:=JT h0;have hj:j<cs.length:=by lia
 refine bY ?_;rw[JC,JA hj,K3,JH,JA hj];rfl
end L2
namespace Gx
open PySem L2
def c8:0<=sizeLine:=by decide
def ci:1<=sizeLine:=by decide
def bI:2<=sizeLine:=by decide
def kZ:3<=sizeLine:=by decide
def oU:4<=sizeLine:=by decide
def le6:6<=sizeLine:=by decide
def bj {n:Nat} (h:n<1000000):n<=sizeLine:=by
 have:(1000000:Nat)<sizeLine:=by decide
 lia
def bH {x:V} {r:List V}:bo (x::r) 0=⇑x:=by unfold bo dM;rw[JJ #[],JJ 0xB];rfl
def vq {Q:VK} {H:Hp} {x y:V} (h:x=y) (q:Q y H):Q x H:=by subst h; exact q
def wj:((2:Int) ^ (48:Int).toNat)=281474976710656:=by decide
def rJ:(0:Int)<(2:Int) ^ (48:Int).toNat:=by decide
def xY:("+-*/<=&|^":Str).length<=sizeLine:=by decide +kernel
def cG (z n:Int) (h:0<n):0<=z%n/\z%n<n:=#[Int.emod_nonneg _ ∅,Int.emod_lt_of_pos _ h]
def j0 {α:Type} {es:List α} {f:α->V} {i:Nat} {x:V} (h:(es.map f)[i]?=⇑x):∃e,es[i]?=⇑e/\e∈es/\x=f e:=by
 rw[JC] at h;cases he:es[i]? with
 | none=>rw[he] at h; cases h
 | some e=>rw[he] at h; cases h; show#[e,rfl,J9 he,rfl]
end Gx
namespace L2
open PySem PySem.Spec PyProof.Rows
section
variable {g:TG} {tif:TT} {te:TE} {js:List (JM Nat)} {σ:St} {H:Hp} {Q:VK}
def D6 {hi:Int} {n:Nat} {p:MV} (f:Nat->V) (hn:n<=1000000) (hp:H p=none)
   (hs:∀i H2 (R:VK),i<n->Same H H2->R (f i) H2->g (.int (hi - i)) (cC js σ) H2 λσ2 H3=>tif σ2 H3 λc H4=>if c=true then te σ2 H4 R else False)
   (hd:∀H2,Same H H2->H2 p=⇑(.lst ((List.range n).map f))->Q ↥p H2) (mono:∀x H2 (M M':St->Hp->Prop),(∀σ' H',M σ' H'->M' σ' H')->g x (cC js σ) H2 M->g x (cC js σ) H2 M':=by intro _ _ _ _ h z; exact h _ _ z) (mon2:∀σ2 H2 (M M':Bool->Hp->Prop),(∀c H',M c H'->M' c H')->tif σ2 H2 M->tif σ2 H2 M':=by intro _ _ _ _ h z; exact h _ _ z) :
   i' (kE hi n) g tif te js σ Q p H:=by
 show#[λi m acc H2=>m=n - i/\i<=n/\Same H H2/\H2 p=⇑(.lst acc)/\acc=(List.range i).map f,#[n,by simp,Jd _,Same.new hp,aF,rfl],?_];rintro i m acc H2 ⟨rfl,hi',s2,e2,rfl⟩;show#[e2,?_];by_cases hlt:i<n
 . refine .inr #[hlt,?_,λacc' H'=>Same H H'/\H' p=⇑(.lst acc')/\acc'=(List.range (i+1)).map f,λacc' H' p'=>#[n - (i+1),∅,rfl,hlt,p'],λx H' y=>?_]
   . have:(1000000:Nat)<sizeLine:=by decide
     rw[J7,JY]
     lia
   . let#[e,y]:=y;subst e y;refine mono _ _ _ _ (λσ' H'' z=>?_) (hs i _ (λy H5=>H5 p=⇑(.lst ((List.range i).map f))/\(Same H (upd H5 p (.lst ((List.range i).map f++[y])))/\upd H5 p (.lst ((List.range i).map f++[y])) p=⇑(.lst ((List.range i).map f++[y]))/\(List.range i).map f++[y]=(List.range (i+1)).map f)) hlt s2 #[e2,s2.upd hp,aF,?_])
     . refine mon2 _ _ _ _ (λc H'' zz=>?_) z;cases c with
       | true=>exact zz
       | false=>exact zz.elim
     . rw[Jy,JB];rfl
 . have e:i=n:=by lia
   subst e;exact .inl #[JG _,hd H2 s2 e2]
end
abbrev D2 (K:MW) (ta:TE):TT:=λσ H Q=>ta σ H λx H'=>∃k,qX K x H' k/\Q k H'
def vj {X:Cx} {K:MW} {a:Expr} {ta:TE} (hK:X.K=K) (ha:PE X a ta) (he:∀whole,isTrue a X.env whole=(do let v <- whole; standAt a.pos; holding [v] (truthy v))):PT X a (D2 K ta):=by subst hK;exact DR ha he
end L2
namespace Gx
open PySem L2
abbrev tx (l:List Nat):Str:=#[l.toArray]
def pY (l:List Nat):(tx l).cps.toList=l:=by unfold tx; simp
def dO (l:List Nat):(tx l).length=l.length:=by unfold tx Str.length; simp
def fY (a b:List Nat):tx a++tx b=tx (a++b):=by show(#[_++_]:Str)=_;unfold tx;simp
def tx_inj {a b:List Nat} (h:tx a=tx b):a=b:=by rw[<- pY a,h,pY]
def Bx {l:List Nat} {i j:Int} (h0:0<=i) (h1:i<=j) (h2:j<=l.length):Txt.slice (tx l) ⇑i ⇑j=tx ((l.drop i.toNat).take (j - i).toNat):=by have:=PyProof.Rows.slice_closes (x:=tx l) (i:=i) (j:=j) #[h0,h1,by rw[pY]; exact h2];rw[LP,pY] at this;exact this
def HM (y:Str) (ys:List Str):PySem.Txt.join "" (y::ys)=y++PySem.Txt.join "" ys:=by
 show PySem.Builtin.Str.glued ("":Str) (y::ys)=y++PySem.Builtin.Str.glued ("":Str) ys;rw[PySem.StrLaws.glued_eq_join,PySem.StrLaws.glued_eq_join];cases ys with
 | nil =>
   show y=y++Str.empty;cases y;show _=(#[_++(List.toArray [])]:Str);simp
 | cons z zs =>
   show y++""++Str.join "" (z::zs)=_;have:y++("":Str)=y:=by cases y;show(#[_++(List.toArray [])]:Str)=_;simp
   rw[this]
def jL:∀(ls:List (List Nat)),PySem.Txt.join "" (ls.map tx)=tx ls.flatten
 | []=>by show PySem.Builtin.Str.glued ("":Str) []=_;rw[PySem.StrLaws.glued_eq_join];rfl
 | l::ls=>by rw[Jv,HM,jL ls,fY,K8]
end Gx
namespace PySem
open PySem.SeqAt
def Gy {M:Model} {A:Around} {E:MT->MU->Prop} {s:MU} {β:Type} (f:Nat->β->Sem (ForInStep β)) (I:Nat->β->MU->Prop) (Q:β->MU->Prop) (n:Nat)
   (turn:∀i b s,i<n->I i b s->wpAny M A (f i b) (λr s'=>match r with | .yield b'=>I (i+1) b' s' | .done b'=>Q b' s') E s)
   (fin:∀b s,I n b s->Q b s) (b:β) (h:I 0 b s):wpAny M A (forIn ([0:n]:Std.Legacy.Range) b f) Q E s:=by
 rw[Std.Legacy.Range.forIn_eq_forIn_range'];have hsz:([0:n]:Std.Legacy.Range).size=n:=by simp [Std.Legacy.Range.size]
 show wpAny M A (forIn (List.range' 0 ([0:n]:Std.Legacy.Range).size 1) b f) Q E s;rw[hsz];refine wpAny_forIn_list f (λl c st=>∃i,i<=n/\l=List.range' i (n - i) 1/\I i c st) Q ?_ ?_ _ b #[(0),Jd _,rfl,h]
 . rintro x rest c st ⟨i,hib,hl,hI⟩;have hlt:i<n:=by
     rcases Jx i n with h' | h'
     . exact h'
     . rw[show n - i=0 by lia] at hl; simp at hl
   obtain⟨m,hm⟩:∃m,n - i=m+1:=#[n - i - 1,∅]
   rw[hm,List.range'_succ] at hl;let#[rfl,rfl]:=List.cons.inj hl;refine Ki (turn x c st hlt hI) (λr st' h'=>?_) λ_ _ e=>e;cases r with
   | done c'=>exact h'
   | yield c'=>show#[x+1,∅,by congr 1; lia,h']
 . rintro c st ⟨i,hib,hl,hI⟩;have:i=n:=by
     rcases Jx i n with h' | h'
     . obtain⟨m,hm⟩:∃m,n - i=m+1:=#[n - i - 1,∅]
       rw[hm,List.range'_succ] at hl; simp at hl
     . lia
   subst this; exact fin _ _ hI
def HR (l:MV) (items:Array MT) (n:Nat) (dd:JM MV) (sl:Array (JM MT)) (x:MT) (e:MT->Bool) (j:Nat) (hj:j<items.size) (hit:e items[j]=true) (hno:∀m (hm:m<items.size),m<j->e items[m]=false) :
   Meets (Builtin.«tuple.index» #[[↥l,x],[]])
     (λA R s=>s.heap.get? l=some { cls:=.type "tuple",dict:=dd,data:=.seq items n,slots:=sl }/\(∀y,y∈items->EqAt A.in1 s y x (e y))/\R (.ok (.ret (.int j s.toks))) { s with toks:=s.toks+1 }) :=
 .of_wp λprog w A R s h=>by
   let#[hp,g,d,tk,os]:=s; let#[hl,he,h]:=h
   wp_walk using wpAny_loadPart' hl,Gy _ (λi b s'=>b.1=none/\s'=#[hp,g,d,tk,os]/\i<=j) _ _
   case turn =>
     rintro i ⟨b1,b2⟩ s' hi ⟨hb,rfl,hij⟩;have hi:i<items.size:=↑hi
     simp only at hb;subst hb;have hx:items[i]?=some items[i]:=Array.getElem?_eq_getElem hi;rw[hx];refine J8 (he _ (Array.getElem_mem hi) prog w _ _ ?_);by_cases hij':i=j
     . subst hij';rw[hit]
       wp_walk
       show#[5,h]
     . rw[hno i hi ∅]
       wp_walk
       show#[7,∅]
   case fin =>
     rintro ⟨b1,b2⟩ s' ⟨hb,rfl,hij⟩;have:items.size<=j:=↑hij
     lia
   case h =>
     show#[7,Jd _]
end PySem
namespace L2
open PySem PySem.Spec PyProof.Rows
abbrev Hq (K:MW):V->List V->Hp->VK->Prop:=λx xs H Q=>∃p ys y j,x=↥p/\xs=[y]/\aJ K H p ys/\gc y=true/\ys.all gc=true/\(∃z,ys[j]?=⇑z/\fE z y=true)/\(∀m z,m<j->ys[m]?=⇑z->fE z y=false)/\Q (.int (j:Nat)) H
def IM {X:Cx}:nQ X "tuple.index" (Hq X.K):=by
 intro pins s σ H x vs v us Q I rx rv h;obtain⟨p,ys,y,j,rfl,rfl,hT,fy,fs,⟨z,hz,ez⟩,hno,q⟩:=h;cases rx;let#[u,rfl,ru]:=rv.one;obtain⟨its,r,⟨⟨cls,dd,data,sl⟩,ho,hc,n,hd⟩,hl⟩:=I.tuple hT;simp only at hc hd;subst hc hd;let#[uz,huz,rz]:=r.get hz;have hj:j<its.toArray.size:=by rw[JV];exact(JF.mp huz).1
 have eU:∀(m:Nat) (hm:m<its.toArray.size) (zz:V),ys[m]?=⇑zz->gT y its.toArray[m]=fE zz y:=λm hm zz hzz=>by
   let#[uu,huu,ruu]:=r.get hzz;have:its.toArray[m]=uu:=by have h2:=(JF.mp huu).2;simpa using h2
   rw[this];exact qe ruu (Ku.mp fs zz (J9 hzz))
 refine call_meets F.slot_tuple_index #[_,ho,rfl] F.entry_tuple_index (F.args_tuple_index_2 _ _) (HR p its.toArray n dd sl u (gT y) j hj (by rw[eU j hj z hz]; exact ez) λm hm hmj=>?_) #[ho,λw hw=>rH ru fy r fs w ↑hw,?_]
 . have hm':m<ys.length:=by rw[r.length]; simpa using hm
   rw[eU m hm ys[m] (JA hm')];exact hno m _ hmj (JA hm')
 . show#[.int j,H,I.tok _,#[5],q]
abbrev kS (K:MW) (a:MV):It :=
 #[λi H=>∃xs x,aH K H a xs/\xs[i]?=⇑x,λi H y H'=>∃b,y=↥b/\H b=none/\∀xs x,aH K H a xs->xs[i]?=⇑x->H'=upd H b (.tup [.int i,x]),λi H=>∃xs,aH K H a xs/\xs.length=i]
def Bq {P:Program} {w:World} {K:MW} {elts:List Expr} {k:Nat} {pos:Pos} (a e it:MV) (hne:e≠it):Turn P w K (.Tuple elts k pos) (kS K a) [e,it] e (λi h=>(∃old,IsEnum h e it i old)/\h.IsListIter it a i) where
 mem:=by simp
 obj:=λi h st b hb=>by
   obtain⟨⟨old,he⟩,⟨o,ho,hc,hd⟩⟩:=st;rcases JS.mp hb with z|z
   . subst z;show#[_,he,λv z=>by cases (show Data.fields _=Data.cell v from z)]
   . have z:b=it:=↑z
     subst z;show#[o,ho,λv z=>by rw[hd] at z; cases z]
 keep:=λi h h' st kk=>by obtain⟨⟨old,he⟩,⟨o,ho,r⟩⟩:=st;show#[#[old,kk e 0xB _ he],#[o,kk it 0xB o ho,r]]
 item:=by
   intro X hP hw hK hc i pins s σ H E I hf st hg;subst hP hw hK;obtain⟨⟨old,he⟩,hit⟩:=st;let#[xs,x,hq,hx]:=hg;let#[its,rv,p,hz]:=I.list hq;have pt:s.heap.IsList a its.toArray:=p.isList;let#[u,hu,ru]:=rv.get hx;have hia:a≠it:=λz=>by
     subst z;let#[o1,h1,c1,_]:=hit;let#[o2,h2,c2,_]:=pt;rw[h1] at h2;cases h2;rw[c1] at c2;injection c2 with c2
     exact absurd c2 #[]
   have hea:e ∉ [it,a]:=λz=>by
     rcases JS.mp z with z|z
     . exact hne z
     . have z:e=a:=↑z
       subst z;let#[o2,h2,c2,_]:=pt;rw[he] at h2;cases h2;injection (show Value.type "enumerate"=Value.type "list" from c2) with c2
       exact absurd c2 #[]
   have hlt:i<its.toArray.size:=by have:=(JF.mp hu).1;simpa using this
   refine MF (Draws.list (A:=X.A.in1) (I.ok.hd hc) it a hia its.toArray) he #[hit,pt] hlt hne hea λy h' tk hy hout hst hT hsz hk=>?_;show#[5,Lu hout λh2 he2 hs2=>?_];have hs2:Heap.SameBut e h' h2:=hs2;have hyu:y=u:=by
     have hy:its.toArray[i]?=⇑y:=hy;have:its[i]?=⇑y:=↑hy
     rw[hu] at this;exact(Option.some.inj this).symm
   subst hyu;have helt:e<s.heap.objs.size:=JU he;have hfr:H s.heap.objs.size=none:=I.hok.fresh (JG _);have hnS:s.heap.objs.size≠e:=Kl helt;have hT2:h2.get? s.heap.objs.size=some { cls:=.type "tuple",data:=.seq (List.toArray [.int i tk,y]) }:=(hs2.2 _ hnS)\hT;show#[↥s.heap.objs.size,upd H s.heap.objs.size (.tup [.int i,x]),I.turnLaid (t':=tk+1) (ch:=[e,it]) (λb o hb q=>?_) hf (JG _) ?_,rfl,#[s.heap.objs.size,rfl,hfr,λxs' x' hq' hx'=>?_],#[#[y,by exact_mod_cast he2],?_],λb hb=>?_]
   . have h1:b≠e:=λz=>hb (by simp [z]);have h3:b≠it:=λz=>hb (by simp [z]);exact(hs2.2 b h1).trans (hk b o h1 h3 q)
   . show#[by show 2<=sizeLine; decide,[.int i tk,y],.cons #[tk,rfl] (.cons ru .nil),#[_,hT2,13]]
   . have:=I.list_inj hq' hq;subst this;rw[hx] at hx';cases hx';rfl
   . obtain⟨⟨o,ho,r⟩,_⟩:=hst;show#[o,(hs2.2 it hne.symm)\ho,r]
   . have hb0:=(hf b hb).1;rw[aR]
     . exact hb0
     . intro z;subst z;let#[o,ho,_]:=hit;rcases JS.mp hb with z|z
       . exact hnS z
       . have z:s.heap.objs.size=it:=↑z
         exact absurd (JU ho) (by rw[<- z]; exact Ju _)
 done:=by
   intro X hP hw hK hc i pins s σ H E I hf st hg;subst hP hw hK;obtain⟨⟨old,he⟩,hit⟩:=st;let#[xs,hq,hx]:=hg;let#[its,rv,p,hz]:=I.list hq;have pt:s.heap.IsList a its.toArray:=p.isList;have hl:=rv.length;have hia:a≠it:=λz=>by
     subst z;let#[o1,h1,c1,_]:=hit;let#[o2,h2,c2,_]:=pt;rw[h1] at h2;cases h2;rw[c1] at c2;injection c2 with c2
     exact absurd c2 #[]
   have hi:i=its.toArray.size:=by simp; lia
   refine wpAny_pyNext_enum_endD (Draws.list (A:=X.A.in1) (I.ok.hd hc) it a hia its.toArray) he (by rw[<- hi]; show#[hit,pt]) λh' eb=>#[rfl,?_]
   exact I.turnedL (t':=s.toks) (ch:=[e,it]) (λb o hb q=>eb b o (λz=>hb (by simp [z])) q) hf
 self:=λ_ _ _ _ _ st h=>by obtain⟨⟨old,he⟩,_⟩:=st;exact LS he h
section
variable {X:Cx}
abbrev Fi (K:MW) (ta:TA):TI:=λσ H R=>ta σ H λvs H1=>∃a,vs=[↥a]/\(∃xs,aH K H1 a xs)/\R (kS K a) H1
def p9 {a:Expr} {ta:TA} {p pos tpos:Pos} {elts:List Expr} {k:Nat} (hg:Gl X "enumerate") (hm:X.mg "enumerate"=none) (ha:PA X [a] ta) (hs:starEach [a] X.env=[(false,eval a X.env)]:=by rfl):PI X (.Tuple elts k tpos) (.Call (.Name "enumerate" p) [a] [] pos) (Fi X.K ta):=by
 intro pins s σ H R I h;refine Call_ (ij I hg hm wL (KE (aQ (ha pos pins s σ H _ I h) λus s1 z149_=>?_) hs rfl));let#[vs,H1,I1,r1,q1]:=z149_;obtain⟨a,e,⟨xs,hq⟩,q⟩:=q1;subst e;cases r1 with
 | cons r rr =>
   cases rr;cases r;let#[its,rv,p,hz]:=I1.list hq;refine call_enumerate_list p.isList λh' he hit _ hk=>?_;refine LS he ?_;show#[s1.heap.objs.size+1,[s1.heap.objs.size+1,s1.heap.objs.size],4,H1,rfl,I1.kept (t':=s1.toks) hk,Bq a (s1.heap.objs.size+1) s1.heap.objs.size (Nat.succ_ne_self _),#[#[.none,he],hit],λb hb=>?_,q];rcases JS.mp hb with z|z
   . subst z;exact I1.fpOk (Kf _) (I1.hok.fresh (Kf _))
   . have z:b=s1.heap.objs.size:=↑z
     subst z;exact I1.fpOk (JG _) (I1.hok.fresh (JG _))
def tL {K:MW} {a:MV} {xs:List V} {g:TG} {tb:TS} {D:cj} {σ:St} {H:Hp} (Pv:Nat->St->Hp->Prop) (h0:Pv 0 σ H) (hl:∀i σ H,i<=xs.length->Pv i σ H->aH K H a xs)
   (hs:∀i x σ H b,xs[i]?=⇑x->Pv i σ H->H b=none->g ↥b σ (upd H b (.tup [.int i,x])) λσ2 H2=>tb { D with nx:=Pv (i+1),ct:=Pv (i+1),bk:=D.nx } σ2 H2) (hd:∀σ H,Pv xs.length σ H->D.nx σ H) :
   ∃W:Nat->Nat->St->Hp->Prop,(∃m,W 0 m σ H)/\∀i m σ H,W i m σ H->((kS K a).stop i H/\D.nx σ H)\/((kS K a).go i H/\∃N:St->Hp->Prop,(∀σ' H',N σ' H'->∃m',m'<m/\W (i+1) m' σ' H')/\∀x H',(kS K a).yld i H x H'->g x σ H' λσ2 H2=>tb { D with nx:=N,ct:=N,bk:=D.nx } σ2 H2):=by
 show#[λi m σ H=>m=xs.length - i/\i<=xs.length/\Pv i σ H,#[xs.length,by simp,Jd _,h0],?_];rintro i m σ H ⟨rfl,hi,p⟩;have q:=hl i σ H hi p;by_cases hlt:i<xs.length
 . refine .inr #[#[xs,xs[i],q,by simp [hlt]],Pv (i+1),λσ' H' p'=>#[xs.length - (i+1),∅,rfl,hlt,p'],λx H' y=>?_];let#[b,rfl,hb,y]:=y;rw[y xs xs[i] q (by simp [hlt])];exact hs i xs[i] σ H b (by simp [hlt]) p hb
 . have e:i=xs.length:=by lia
   subst e;exact .inl #[#[xs,q,rfl],hd σ H p]
end
end L2
namespace PySem
open Sem (wp)
abbrev cH (b:Bool) (h:Heap) (it l:MV) (k:Nat):Prop:=match b with|true=>h.IsTupleIter it l k|false=>h.IsListIter it l k
abbrev cZ (b:Bool) (h:Heap) (l:MV) (xs:Array MT):Prop:=match b with|true=>h.IsTuple l xs|false=>h.IsList l xs
variable {b:Bool} {h h':Heap} {it l:MV}
def cH.at {k:Nat} (p:cH b h it l k) (e:∀o,h.get? it=⇑o->h'.get? it=⇑o):cH b h' it l k:=by cases b <;> (let#[o,ho,r]:=p; show#[o,e o ho,r])
variable {xs:Array MT}
def cZ.at (p:cZ b h l xs) (e:∀o,h.get? l=⇑o->h'.get? l=⇑o):cZ b h' l xs:=by cases b <;> (let#[o,ho,r]:=p; show#[o,e o ho,r])
def cH.extBut {c:MV}{k:Nat} (p:cH b h it l k) (e:Heap.ExtBut c h h') (n:it≠c):cH b h' it l k:=p.at λo ho=>e _ _ n ho
def cZ.extBut {c:MV}(p:cZ b h l xs) (e:Heap.ExtBut c h h') (n:l≠c):cZ b h' l xs:=p.at λo ho=>e _ _ n ho
def cH.lt {k:Nat} (p:cH b h it l k):it<h.objs.size:=by cases b <;> (let#[o,ho,r]:=p; exact JU ho)
variable {b1 b2:Bool} {z i1 i2 l1 l2:MV} {k1 k2:Nat} {ys:Array MT} {a:MT}
section
variable {prog:Program} {w:World} {A:Around} {E:MT->MU->Prop} {s:MU}
def rn {i:Nat} {items:Array MT} {x:MT} {Q:MT->MU->Prop} (p:cH b s.heap it l i) (q:cZ b s.heap l items) (hx:items[i]?=⇑x)
   (hQ:∀h',cH b h' it l (i+1)->Heap.SameBut it s.heap h'->Q x { s with heap:=h' }):wpAny 0x9 A (Builtin.SmallTypes.nextOf ↥it) Q E s:=by
 cases b with
 | true=>exact L2.gx_nextOf_tup p q hx hQ
 | false=>exact wpAny_nextOf_list_item p q hx hQ
def xH {i:Nat} {items:Array MT} {Q:MT->MU->Prop} (hh:A.handled=none) (p:cH b s.heap it l i) (q:cZ b s.heap l items) (hx:items[i]?=none)
   (hE:∀h' e,Heap.ExtBut it s.heap h'->(∃o,h'.get? e=⇑o/\o.cls=.type "StopIteration")->E ↥e { s with heap:=h' }):wpAny 0x9 A (Builtin.SmallTypes.nextOf ↥it) Q E s:=by
 cases b with
 | true=>exact L2.gx_nextOf_tup_end hh p q hx hE
 | false=>exact wpAny_nextOf_list_end hh p q hx hE
def D5 {TI TO:MV}{x y b:MT}{Q:MT->MU->Prop} (D:ZipApart z TI TO i1 i2 l1 l2)
   (zZ:IsZip s.heap z TI TO .none) (zI:IsPair s.heap TI ↥i1 ↥i2) (zO:IsPair s.heap TO a b)
   (p1:cH b1 s.heap i1 l1 k1) (p2:cH b2 s.heap i2 l2 k2) (q1:cZ b1 s.heap l1 xs) (q2:cZ b2 s.heap l2 ys) (hx:xs[k1]?=⇑x) (hy:ys[k2]?=⇑y)
   (hQ:∀h',IsZip h' z TI TO (rawInt s.heap.objs.size)->IsPair h' TO x y->cH b1 h' i1 l1 (k1+1)->cH b2 h' i2 l2 (k2+1)->IsPair h' s.heap.objs.size x y->h'.objs.size=s.heap.objs.size+1 ->
     (∀c o,c≠z->c≠TO->c≠i1->c≠i2->s.heap.get? c=⇑o->h'.get? c=⇑o)->Q ↥s.heap.objs.size { s with heap:=h' }) :
   wpAny 0x9 A (Builtin.«zip.__next__» #[[↥z],[]]) (λfin s'=>∃v,fin=.done (.ret v)/\Q v s') E s:=by
 show wpAny _ _ (field ↥z 2 >>= _) _ _ _; refine J8 (Jt zZ rfl (x:=.bool false) rfl ?_); show wpAny _ _ (field ↥z 3 >>= _) _ _ _; refine J8 (Jt zZ rfl (x:=↥TI) rfl ?_); refine J8 (Kk zI rfl ?_); show wpAny _ _ (Builtin.SmallTypes.ownedTupleIsFree ↥z >>= _) _ _ _; refine J8 ?_; unfold Builtin.SmallTypes.ownedTupleIsFree; refine J8 (Jt zZ rfl (x:=.none) rfl (JO ?_)); simp only[if_true]; refine J8 (L' ?_); refine J8 (Jt zZ rfl (x:=↥TO) rfl ?_);refine J8 (Km zZ 0xB λh₁ zZ₁ hs₁=>?_); replace zZ₁:IsZip h₁ z TI TO .ellipsis:=zZ₁; refine J8 ?_; simp only[List.zipIdx_cons,List.zipIdx_nil,MO,List.forIn_nil];refine J8 (J8 (Lv ?_)); show wpAny _ _ (Builtin.SmallTypes.nextOf ↥i1 >>= _) _ _ _; refine J8 (rn (p1.extBut hs₁.extBut D.i1z) (q1.extBut hs₁.extBut D.l1z) hx λh₂ h1₂ hs₂=>JO ?_); have hTO₂:IsPair h₂ TO a b:=hs₂.extBut _ _ D.TOi1 (hs₁.extBut _ _ D.TOz zO); refine J8 (Kk hTO₂ rfl ?_); refine J8 (Lh hTO₂ λh₃ hTO₃ hs₃=>?_); replace hTO₃:IsPair h₃ TO x b:=hTO₃; refine J8 (wpAny_letGo (JO ?_))
 refine J8 (J8 (Lv ?_)); show wpAny _ _ (Builtin.SmallTypes.nextOf ↥i2 >>= _) _ _ _; refine J8 (rn (((p2.extBut hs₁.extBut D.i2z).extBut hs₂.extBut D.i12.symm).extBut hs₃.extBut D.TOi2.symm)
   (((q2.extBut hs₁.extBut D.l2z).extBut hs₂.extBut D.l2i1).extBut hs₃.extBut D.l2TO) hy λh₄ h2₄ hs₄=>JO ?_)
 have hTO₄:IsPair h₄ TO x b:=hs₄.extBut _ _ D.TOi2 hTO₃; refine J8 (Kk hTO₄ rfl ?_); refine J8 (Lh hTO₄ λh₅ hTO₅ hs₅=>?_); replace hTO₅:IsPair h₅ TO x y:=hTO₅; refine J8 (wpAny_letGo (JO (JO ?_)));refine J8 (Kk hTO₅ rfl ?_); refine J8 (wpAny_newTuple ?_); have hsz:h₅.objs.size=s.heap.objs.size:=(by rw[hs₅.1,hs₄.1,hs₃.1,hs₂.1,hs₁.1]); have hz₅:IsZip h₅ z TI TO .ellipsis:=hs₅.extBut _ _ D.TOz.symm (hs₄.extBut _ _ D.i2z.symm (hs₃.extBut _ _ D.TOz.symm (hs₂.extBut _ _ D.i1z.symm zZ₁))); have hk₅:∀c o,c≠z->c≠TO->c≠i1->c≠i2->s.heap.get? c=⇑o->h₅.get? c=⇑o:=λc o c1 c2 c3 c4 e =>
   hs₅.extBut _ _ c2 (hs₄.extBut _ _ c4 (hs₃.extBut _ _ c2 (hs₂.extBut _ _ c3 (hs₁.extBut _ _ c1 e))))
 have h1₅:cH b1 h₅ i1 l1 (k1+1):=((h1₂.extBut hs₃.extBut D.TOi1.symm).extBut hs₄.extBut D.i12).extBut hs₅.extBut D.TOi1.symm; have h2₅:cH b2 h₅ i2 l2 (k2+1):=h2₄.extBut hs₅.extBut D.TOi2.symm; have hzlt:z<h₅.objs.size:=JU hz₅; have hTOlt:TO<h₅.objs.size:=JU hTO₅; have hi1lt:i1<h₅.objs.size:=cH.lt h1₅; have hi2lt:i2<h₅.objs.size:=cH.lt h2₅; show wpAny _ _ (Builtin.SmallTypes.ownedTupleHandOut ↥z ↥h₅.objs.size >>= _) _ _ _; refine J8 ?_; unfold Builtin.SmallTypes.ownedTupleHandOut; have hz₆:IsZip (h₅.push { cls:=.type "tuple",data:=.seq (List.toArray [x,y]) }) z TI TO .ellipsis:=JD _ hz₅
 refine J8 (Km hz₆ 0xB λh₇ hz₇ hs₇=>?_); replace hz₇:IsZip h₇ z TI TO (rawInt h₅.objs.size):=hz₇; refine Km hz₇ 0xB λh₈ hz₈ hs₈=>?_; replace hz₈:IsZip h₈ z TI TO (rawInt h₅.objs.size):=hz₈; have up:∀c o,c≠z->h₅.get? c=⇑o->h₈.get? c=⇑o:=λc o c1 e=>hs₈.extBut _ _ c1 (hs₇.extBut _ _ c1 (JD _ e)); have hT₈:IsPair h₈ h₅.objs.size x y:=hs₈.extBut _ _ (Kl hzlt) (hs₇.extBut _ _ (Kl hzlt) (Ja _ rfl)); have hz8:h₈.objs.size=h₅.objs.size+1:=(by rw[hs₈.1,hs₇.1,KJ])
 rw[hsz] at hz₈ hT₈ hz8;refine JO #[5,?_]; show Q ↥h₅.objs.size _;rw[hsz];exact hQ h₈ hz₈ (up _ _ D.TOz hTO₅) (h1₅.at λo e=>up _ o D.i1z e) (h2₅.at λo e=>up _ o D.i2z e) hT₈ hz8 λc o c1 c2 c3 c4 e=>up c o c1 (hk₅ c o c1 c2 c3 c4 e)
def D7 {TI TO:MV}{b:MT}{Q:Fin->MU->Prop} (hh:A.handled=none) (D:ZipApart z TI TO i1 i2 l1 l2)
   (zZ:IsZip s.heap z TI TO .none) (zI:IsPair s.heap TI ↥i1 ↥i2) (zO:IsPair s.heap TO a b)
   (p1:cH b1 s.heap i1 l1 k1) (p2:cH b2 s.heap i2 l2 k2) (q1:cZ b1 s.heap l1 xs) (q2:cZ b2 s.heap l2 ys) (hend:xs[k1]?=none\/ys[k2]?=none)
   (hE:∀h' e,(∀c o,c≠z->c≠TO->c≠i1->c≠i2->s.heap.get? c=⇑o->h'.get? c=⇑o)->(∃o,h'.get? e=⇑o/\o.cls=.type "StopIteration")->E ↥e { s with heap:=h' }) :
   wpAny 0x9 A (Builtin.«zip.__next__» #[[↥z],[]]) Q E s:=by
 show wpAny _ _ (field ↥z 2 >>= _) _ _ _; refine J8 (Jt zZ rfl (x:=.bool false) rfl ?_); show wpAny _ _ (field ↥z 3 >>= _) _ _ _; refine J8 (Jt zZ rfl (x:=↥TI) rfl ?_); refine J8 (Kk zI rfl ?_); show wpAny _ _ (Builtin.SmallTypes.ownedTupleIsFree ↥z >>= _) _ _ _; refine J8 ?_; unfold Builtin.SmallTypes.ownedTupleIsFree; refine J8 (Jt zZ rfl (x:=.none) rfl (JO ?_)); simp only[if_true]; refine J8 (L' ?_); refine J8 (Jt zZ rfl (x:=↥TO) rfl ?_);refine J8 (Km zZ 0xB λh₁ zZ₁ hs₁=>?_); replace zZ₁:IsZip h₁ z TI TO .ellipsis:=zZ₁; refine J8 ?_; simp only[List.zipIdx_cons,List.zipIdx_nil,MO,List.forIn_nil]; refine J8 (J8 (Lv ?_)); show wpAny _ _ (Builtin.SmallTypes.nextOf ↥i1 >>= _) _ _ _;cases hx:xs[k1]? with
 | none =>
   refine J8 (xH hh (p1.extBut hs₁.extBut D.i1z) (q1.extBut hs₁.extBut D.l1z) hx λh₂ e hs₂ he=>?_); let#[oe,hoe,hce]:=he; have hz₂:IsZip h₂ z TI TO .ellipsis:=hs₂ _ _ D.i1z.symm zZ₁; have hez:e≠z:=(λx=>by subst x; rw[hz₂] at hoe; cases hoe; simp at hce); refine Km hz₂ 0xB λh₃ _ hs₃=>hE h₃ e (λc o c1 _ c3 _ x=>hs₃.extBut _ _ c1 (hs₂ _ _ c3 (hs₁.extBut _ _ c1 x))) #[oe,hs₃.extBut _ _ hez hoe,hce]
 | some x =>
   have hy:ys[k2]?=none:=(by rcases hend with h|h; rw[hx] at h; cases h; exact h); refine J8 (rn (p1.extBut hs₁.extBut D.i1z) (q1.extBut hs₁.extBut D.l1z) hx λh₂ h1₂ hs₂=>JO ?_); have hTO₂:IsPair h₂ TO a b:=hs₂.extBut _ _ D.TOi1 (hs₁.extBut _ _ D.TOz zO); refine J8 (Kk hTO₂ rfl ?_); refine J8 (Lh hTO₂ λh₃ hTO₃ hs₃=>?_); refine J8 (wpAny_letGo (JO ?_)); refine J8 (J8 (Lv ?_)); show wpAny _ _ (Builtin.SmallTypes.nextOf ↥i2 >>= _) _ _ _; refine J8 (xH hh (((p2.extBut hs₁.extBut D.i2z).extBut hs₂.extBut D.i12.symm).extBut hs₃.extBut D.TOi2.symm)
     (((q2.extBut hs₁.extBut D.l2z).extBut hs₂.extBut D.l2i1).extBut hs₃.extBut D.l2TO) hy λh₄ e hs₄ he=>?_)
   let#[oe,hoe,hce]:=he; have hz₄:IsZip h₄ z TI TO .ellipsis:=hs₄ _ _ D.i2z.symm (hs₃.extBut _ _ D.TOz.symm (hs₂.extBut _ _ D.i1z.symm zZ₁)); have hez:e≠z:=(λx=>by subst x; rw[hz₄] at hoe; cases hoe; simp at hce); refine Km hz₄ 0xB λh₅ _ hs₅=>hE h₅ e (λc o c1 c2 c3 c4 x=>hs₅.extBut _ _ c1 (hs₄ _ _ c4 (hs₃.extBut _ _ c2 (hs₂.extBut _ _ c3 (hs₁.extBut _ _ c1 x))))) #[oe,hs₅.extBut _ _ hez hoe,hce]
def Er {TI TO:MV}{x y b:MT}{Q:JM MT->MU->Prop} (D:ZipApart z TI TO i1 i2 l1 l2)
   (zZ:IsZip s.heap z TI TO .none) (zI:IsPair s.heap TI ↥i1 ↥i2) (zO:IsPair s.heap TO a b)
   (p1:cH b1 s.heap i1 l1 k1) (p2:cH b2 s.heap i2 l2 k2) (q1:cZ b1 s.heap l1 xs) (q2:cZ b2 s.heap l2 ys) (hx:xs[k1]?=⇑x) (hy:ys[k2]?=⇑y)
   (hQ:∀h',IsZip h' z TI TO (rawInt s.heap.objs.size)->IsPair h' TO x y->cH b1 h' i1 l1 (k1+1)->cH b2 h' i2 l2 (k2+1)->IsPair h' s.heap.objs.size x y->h'.objs.size=s.heap.objs.size+1 ->
     (∀c o,c≠z->c≠TO->c≠i1->c≠i2->s.heap.get? c=⇑o->h'.get? c=⇑o)->Q ⇑↥s.heap.objs.size { s with heap:=h' }) :
   wpAny 0x9 A (pyNext ↥z) Q E s:=by
 have hT:s.TypeIs ↥z "zip":=#[_,zZ,rfl]; unfold pyNext;exact J8 (wpAny_attempt (wpAny_callSpecial?_slot (name:=Str.ofString "__next__") hT Li
   (Ka Li hT F.entry_zip_next
     (D5 D zZ zI zO p1 p2 q1 q2 hx hy λh' a1 a2 a3 a4 a5 a6 a7=>JO (hQ h' a1 a2 a3 a4 a5 a6 a7)) (F.args_zip_next_1 _))))
def Bp {TI TO:MV}{b:MT}{Q:JM MT->MU->Prop} (hh:A.handled=none) (D:ZipApart z TI TO i1 i2 l1 l2)
   (zZ:IsZip s.heap z TI TO .none) (zI:IsPair s.heap TI ↥i1 ↥i2) (zO:IsPair s.heap TO a b)
   (p1:cH b1 s.heap i1 l1 k1) (p2:cH b2 s.heap i2 l2 k2) (q1:cZ b1 s.heap l1 xs) (q2:cZ b2 s.heap l2 ys) (hend:xs[k1]?=none\/ys[k2]?=none)
   (hQ:∀h',(∀c o,c≠z->c≠TO->c≠i1->c≠i2->s.heap.get? c=⇑o->h'.get? c=⇑o)->Q none { s with heap:=h' }):wpAny 0x9 A (pyNext ↥z) Q E s:=by
 have hT:s.TypeIs ↥z "zip":=#[_,zZ,rfl]; unfold pyNext; refine J8 (wpAny_attempt (wpAny_callSpecial?_slot (name:=Str.ofString "__next__") hT Li
   (Ka Li hT F.entry_zip_next (D7 hh D zZ zI zO p1 p2 q1 q2 hend λh' e hk he=>?_) (F.args_zip_next_1 _))))
 let#[o,ho,hc]:=he; refine J8 (wpAny_isInstance (T:="StopIteration") (b:=true) #[o,ho,hc] isSubtype_stop ?_);exact JO (hQ _ hk)
end
abbrev eu (b:Bool) (l:MV):Obj:={ cls:=.type (match b with|true=>"tuple_iterator" | false=>"list_iterator"),data:=.fields (List.toArray [↥l,.int 0 0]) }
def Ek (b1 b2:Bool) (l1 l2:MV) (xs ys:Array MT) :
   Meets (Builtin.«zip.__new__» #[[.type "zip",↥l1,↥l2],[]]) (λ_ R s=>cZ b1 s.heap l1 xs/\cZ b2 s.heap l2 ys /\
     R (.ok (.ret ↥((((s.heap.push (eu b1 l1)).push (eu b2 l2)).push { cls:=.type "tuple",data:=.seq (List.toArray [↥s.heap.objs.size,↥(s.heap.push (eu b1 l1)).objs.size]) }).push { cls:=.type "tuple",data:=.seq (List.toArray [.none,.none]) }).objs.size))
       { s with heap:=(((((s.heap.push (eu b1 l1)).push (eu b2 l2)).push { cls:=.type "tuple",data:=.seq (List.toArray [↥s.heap.objs.size,↥(s.heap.push (eu b1 l1)).objs.size]) }).push { cls:=.type "tuple",data:=.seq (List.toArray [.none,.none]) }).push
         { cls:=.type "zip",data:=.fields (List.toArray [.none,.bool false,.bool false,↥((s.heap.push (eu b1 l1)).push (eu b2 l2)).objs.size,↥(((s.heap.push (eu b1 l1)).push (eu b2 l2)).push { cls:=.type "tuple",data:=.seq (List.toArray [↥s.heap.objs.size,↥(s.heap.push (eu b1 l1)).objs.size]) }).objs.size]) }) }) :=
 .of_wp λprog w A R s h=>by
   let#[hp,g,d,tk,os]:=s; let#[q1,q2,h]:=h;have hsub:=sub_zip;have q2':cZ b2 (hp.push (eu b1 l1)) l2 ys:=q2.at λo e=>JD _ e;cases b1 with
   | true =>
     have hL1:Heap.IsTuple (Shared.heap ⟨hp,g,d,tk,os⟩) l1 xs:=q1;cases b2 with
     | true =>
       have hL2:Heap.IsTuple (Shared.heap ⟨hp.push { cls:=.type "tuple_iterator",data:=.fields (List.toArray [↥l1,.int 0 0]) },g,d,tk,os⟩) l2 ys:=q2'
       wp_walk using Kc hL1,Kc hL2; show#[5,h]
     | false =>
       have hL2:Heap.IsList (Shared.heap ⟨hp.push { cls:=.type "tuple_iterator",data:=.fields (List.toArray [↥l1,.int 0 0]) },g,d,tk,os⟩) l2 ys:=q2'
       wp_walk using Kc hL1,Kj hL2; show#[5,h]
   | false =>
     have hL1:Heap.IsList (Shared.heap ⟨hp,g,d,tk,os⟩) l1 xs:=q1;cases b2 with
     | true =>
       have hL2:Heap.IsTuple (Shared.heap ⟨hp.push { cls:=.type "list_iterator",data:=.fields (List.toArray [↥l1,.int 0 0]) },g,d,tk,os⟩) l2 ys:=q2'
       wp_walk using Kj hL1,Kc hL2; show#[5,h]
     | false =>
       have hL2:Heap.IsList (Shared.heap ⟨hp.push { cls:=.type "list_iterator",data:=.fields (List.toArray [↥l1,.int 0 0]) },g,d,tk,os⟩) l2 ys:=q2'
       wp_walk using Kj hL1,Kj hL2; show#[5,h]
section
variable {prog:Program} {w:World} {A:Around} {E:MT->MU->Prop} {s:MU}
def vF (e:h.get? it=⇑(eu b l)):cH b h it l 0:=by cases b <;> show#[_,e,7]
def GM {Q:MT->MU->Prop} (q1:cZ b1 s.heap l1 xs) (q2:cZ b2 s.heap l2 ys)
   (h:∀h' (n:Nat),n=s.heap.objs.size->IsZip h' (n+4) (n+2) (n+3) .none->IsPair h' (n+2) ↥n ↥(n+1)->IsPair h' (n+3) .none .none->cH b1 h' n l1 0->cH b2 h' (n+1) l2 0 ->
     (∀c o,s.heap.get? c=⇑o->h'.get? c=⇑o)->Q ↥(n+4) { s with heap:=h' }) :
   wpAny 0x9 A (call (.type "zip") [↥l1,↥l2]) Q E s:=by
 refine callType_new F.called_zip #[] (F.typeCall_zip_2 _ _) (F.newCall_zip_2 _ _) (λobj=>F.args_object_init_3 obj _ _) F.entry_zip_new (Ek b1 b2 l1 l2 xs ys) #[q1,q2,?_];generalize ho1:eu b1 l1=o1;generalize ho2:eu b2 l2=o2;have z1:(s.heap.push o1).objs.size=s.heap.objs.size+1:=KJ ..;have z2:((s.heap.push o1).push o2).objs.size=s.heap.objs.size+2:=by rw[KJ,z1]
 rw[z1,z2];generalize hT1:({ cls:=.type "tuple",data:=.seq (List.toArray [↥s.heap.objs.size,↥(s.heap.objs.size+1)]) }:Obj)=t1;generalize hT2:({ cls:=.type "tuple",data:=.seq (List.toArray [.none,.none]) }:Obj)=t2;have z3:(((s.heap.push o1).push o2).push t1).objs.size=s.heap.objs.size+3:=by rw[KJ,z2]
 have z4:((((s.heap.push o1).push o2).push t1).push t2).objs.size=s.heap.objs.size+4:=by rw[KJ,z3]
 rw[z3,z4];generalize hZ:({ cls:=.type "zip",data:=.fields (List.toArray [.none,.bool false,.bool false,↥(s.heap.objs.size+2),↥(s.heap.objs.size+3)]) }:Obj)=tz;have g5:=Ja ((((s.heap.push o1).push o2).push t1).push t2) (o:=tz) (by rw[<- hZ]; rfl);have g4:=JD tz (Ja (((s.heap.push o1).push o2).push t1) (o:=t2) (by rw[<- hT2]; rfl));have g3:=JD tz (JD t2 (Ja ((s.heap.push o1).push o2) (o:=t1) (by rw[<- hT1]; rfl)));have g2:=JD tz (JD t2 (JD t1 (Ja (s.heap.push o1) (o:=o2) (by rw[<- ho2]; rfl))));have g1:=JD tz (JD t2 (JD t1 (JD o2 (Ja s.heap (o:=o1) (by rw[<- ho1]; rfl)))));rw[z4] at g5;rw[z3] at g4;rw[z2] at g3;rw[z1] at g2;subst hZ hT1 hT2 ho1 ho2;show#[#[_,g5,rfl],h _ s.heap.objs.size rfl g5 g3 g4 (vF g1) (vF g2) λc o x =>
   JD _ (JD _ (JD _ (JD _ (JD _ x))))]
end
end PySem
namespace L2
open PySem PySem.Spec PyProof.Rows
abbrev fC (b:Bool) (K:MW) (H:Hp) (l:MV) (xs:List V):Prop:=match b with|true=>aJ K H l xs|false=>aH K H l xs
variable {X:Cx} {H:Hp} {xs:List V}
def Inv.sqv {pins:List (MV×Obj)} {σ:St} {s:MU} {b:Bool} {l:MV} (I:Inv X pins σ H s) (h:fC b X.K H l xs):∃its:List MT,aV xs its/\cZ b s.heap l its.toArray:=by
 cases b with
 | true=>let#[its,r,p,_]:=I.tuple h; show#[its,r,p]
 | false=>let#[its,r,p,_]:=I.list h; show#[its,r,p.isList]
def Inv.sqv_inj {pins:List (MV×Obj)} {σ:St} {s:MU} {b:Bool} {l:MV} {ys:List V}(I:Inv X pins σ H s) (h:fC b X.K H l xs) (h':fC b X.K H l ys):xs=ys:=by
 cases b with
 | true=>exact I.tuple_inj h h'
 | false=>exact I.list_inj h h'
def cZ.lt {b:Bool} {h:Heap} {l:MV} {xs:Array MT} (p:cZ b h l xs):l<h.objs.size:=by cases b <;> (let#[o,ho,r]:=p; exact JU ho)
abbrev jv (K:MW) (b1 b2:Bool) (l1 l2:MV):It :=
 #[λi H=>∃xs ys x y,fC b1 K H l1 xs/\fC b2 K H l2 ys/\xs[i]?=⇑x/\ys[i]?=⇑y,
  λi H v H'=>∃b,v=↥b/\H b=none/\∀xs ys x y,fC b1 K H l1 xs->fC b2 K H l2 ys->xs[i]?=⇑x->ys[i]?=⇑y->H'=upd H b (.tup [x,y]),
  λi H=>∃xs ys,fC b1 K H l1 xs/\fC b2 K H l2 ys/\(xs[i]?=none\/ys[i]?=none)]
variable {K:MW}
def F3 {P:Program} {w:World} {elts:List Expr} {k:Nat} {pos:Pos} (b1 b2:Bool) (z TI TO i1 i2 l1 l2:MV) (D:ZipApart z TI TO i1 i2 l1 l2) :
   Turn P w K (.Tuple elts k pos) (jv K b1 b2 l1 l2) [z,TI,TO,i1,i2] z (λi h=>IsZip h z TI TO .none/\IsPair h TI ↥i1 ↥i2/\(∃a b,IsPair h TO a b)/\cH b1 h i1 l1 i/\cH b2 h i2 l2 i) where
 mem:=by simp
 obj:=λi h st b hb=>by
   obtain⟨hz,hTI,⟨a,c,hTO⟩,h1,h2⟩:=st;simp only[JS,LY,or_false] at hb;rcases hb with rfl|rfl|rfl|rfl|rfl
   . show#[_,hz,λv z=>by cases (show Data.fields _=Data.cell v from z)]
   . show#[_,hTI,λv z=>by cases (show Data.seq _ _=Data.cell v from z)]
   . show#[_,hTO,λv z=>by cases (show Data.seq _ _=Data.cell v from z)]
   . cases b1 <;> (let#[o,ho,hc,hd]:=h1; show#[o,ho,λv z=>by rw[hd] at z; cases z])
   . cases b2 <;> (let#[o,ho,hc,hd]:=h2; show#[o,ho,λv z=>by rw[hd] at z; cases z])
 keep:=λi h h' st kk=>by obtain⟨hz,hTI,⟨a,c,hTO⟩,h1,h2⟩:=st;show#[kk _ 0xB _ hz,kk _ 0xB _ hTI,#[a,c,kk _ 0xB _ hTO],h1.at λo e=>kk _ 0xB o e,h2.at λo e=>kk _ 0xB o e]
 item:=by
   intro X hP hw hK hc i pins s σ H E I hf st hg;subst hP hw hK;obtain⟨hz,hTI,⟨oa,ob,hTO⟩,h1,h2⟩:=st;let#[xs,ys,x,y,e1,e2,hx,hy]:=hg;let#[is1,r1,p1]:=I.sqv e1;let#[is2,r2,p2]:=I.sqv e2;let#[u,hu,ru]:=r1.get hx;let#[v,hv,rv]:=r2.get hy;refine Er D hz hTI hTO h1 h2 p1 p2 ↑hu ↑hv λh' a1 a2 a3 a4 a5 a6 hk=>?_;show#[5,wpAny_letOwnedTupleGo_zip a1 λh3 hz3 hs3=>?_];have hs3:Heap.SameBut z h' h3:=hs3;have hzlt:z<s.heap.objs.size:=JU hz;have hfr:H s.heap.objs.size=none:=I.hok.fresh (JG _);have hnS:s.heap.objs.size≠z:=Kl hzlt;have hT3:IsPair h3 s.heap.objs.size u v:=(hs3.2 _ hnS)\a5;show#[↥s.heap.objs.size,upd H s.heap.objs.size (.tup [x,y]),I.turnLaid (t':=s.toks) (ch:=[z,TI,TO,i1,i2]) (λb o hb q=>?_) hf (JG _) ?_,rfl,#[s.heap.objs.size,rfl,hfr,λxs' ys' x' y' q1 q2 hx' hy'=>?_],#[hz3,?_,#[u,v,?_],?_,?_],λb hb=>?_]
   . have n1:b≠z:=λzz=>hb (by simp [zz]);have n3:b≠TO:=λzz=>hb (by simp [zz]);have n4:b≠i1:=λzz=>hb (by simp [zz]);have n5:b≠i2:=λzz=>hb (by simp [zz]);exact(hs3.2 b n1).trans (hk b o n1 n3 n4 n5 q)
   . show#[by show 2<=sizeLine; decide,[u,v],.cons ru (.cons rv .nil),#[_,hT3,13]]
   . have t1:=I.sqv_inj q1 e1;have t2:=I.sqv_inj q2 e2;subst t1 t2;rw[hx] at hx';rw[hy] at hy';cases hx';cases hy';rfl
   . exact(hs3.2 _ D.TIz).trans (hk _ _ D.TIz D.TITO D.TIi1 D.TIi2 hTI)
   . exact(hs3.2 _ D.TOz).trans a2
   . exact a3.at λo e=>(hs3.2 _ D.i1z)\e
   . exact a4.at λo e=>(hs3.2 _ D.i2z)\e
   . have hb0:=(hf b hb).1;rw[aR]
     . exact hb0
     . intro zz;subst zz;simp only[JS,LY,or_false] at hb;rcases hb with e|e|e|e|e
       . exact hnS e
       . exact absurd (JU hTI) (by rw[<- e]; exact Ju _)
       . exact absurd (JU hTO) (by rw[<- e]; exact Ju _)
       . exact absurd h1.lt (by rw[<- e]; exact Ju _)
       . exact absurd h2.lt (by rw[<- e]; exact Ju _)
 done:=by
   intro X hP hw hK hc i pins s σ H E I hf st hg;subst hP hw hK;obtain⟨hz,hTI,⟨oa,ob,hTO⟩,h1,h2⟩:=st;let#[xs,ys,e1,e2,hend]:=hg;let#[is1,r1,p1]:=I.sqv e1;let#[is2,r2,p2]:=I.sqv e2;refine Bp (I.ok.hd hc) D hz hTI hTO h1 h2 p1 p2 ?_ λh' hk=>#[rfl,?_]
   . rcases hend with h|h
     . left; have:=r1.none_of h; simpa using this
     . right; have:=r2.none_of h; simpa using this
   . exact I.turnedL (t':=s.toks) (ch:=[z,TI,TO,i1,i2]) (λb o hb q=>hk b o (λzz=>hb (by simp [zz])) (λzz=>hb (by simp [zz])) (λzz=>hb (by simp [zz])) (λzz=>hb (by simp [zz])) q) hf
 self:=λ_ _ _ _ _ st h=>wpAny_pyIter_zip st.1 h
section
variable {X:Cx}
abbrev Gv (b1 b2:Bool) (K:MW) (ta:TA):TI:=λσ H R=>ta σ H λvs H1=>∃l1 l2,vs=[↥l1,↥l2]/\(∃xs,fC b1 K H1 l1 xs)/\(∃ys,fC b2 K H1 l2 ys)/\R (jv K b1 b2 l1 l2) H1
def rE (b1 b2:Bool) {a b:Expr} {ta:TA} {p pos tpos:Pos} {elts:List Expr} {k:Nat} (hg:Gl X "zip") (hm:X.mg "zip"=none) (ha:PA X [a,b] ta) (hs:starEach [a,b] X.env=(false,eval a X.env)::starEach [b] X.env:=by rfl) (hs2:(backTo pos (starEach [b] X.env)).any (·.1)=false:=by rfl) :
   PI X (.Tuple elts k tpos) (.Call (.Name "zip" p) [a,b] [] pos) (Gv b1 b2 X.K ta):=by
 intro pins s σ H R I h;refine Call_ (ij I hg hm Ct (KE (aQ (ha pos pins s σ H _ I h) λus s1 z150_=>?_) hs hs2));let#[vs,H1,I1,r1,q1]:=z150_;obtain⟨l1,l2,e,⟨xs,hx⟩,⟨ys,hy⟩,q⟩:=q1;subst e;cases r1 with
 | cons r rr =>
   cases rr with
   | cons r' rr =>
     cases rr;cases r;cases r';let#[is1,v1,p1]:=I1.sqv hx;let#[is2,v2,p2]:=I1.sqv hy;refine GM p1 p2 λh' n hn hz hTI hTO h1 h2 hk=>?_;subst hn;refine wpAny_pyIter_zip hz ?_;show#[s1.heap.objs.size+4,[s1.heap.objs.size+4,s1.heap.objs.size+2,s1.heap.objs.size+3,s1.heap.objs.size,s1.heap.objs.size+1],4,H1,rfl,I1.kept (t':=s1.toks) hk,F3 b1 b2 _ _ _ _ _ l1 l2 (zipApart_new (cZ.lt p1) (cZ.lt p2)),#[hz,hTI,#[4,hTO],h1,h2],λb hb=>?_,q];have hb':s1.heap.objs.size<=b:=by simp only[JS,LY,or_false] at hb;rcases hb with e|e|e|e|e <;> rw[e] <;> first|exact JG _|exact LZ _ _
     exact I1.fpOk hb' (I1.hok.fresh hb')
def xi {b1 b2:Bool} {l1 l2:MV} {ys:List V}{g:TG} {tb:TS} {D:cj} {σ:St} (Pv:Nat->St->Hp->Prop) (h0:Pv 0 σ H) (hl:∀i σ H,i<=min xs.length ys.length->Pv i σ H->fC b1 K H l1 xs/\fC b2 K H l2 ys)
   (hs:∀i x y σ H b,xs[i]?=⇑x->ys[i]?=⇑y->Pv i σ H->H b=none->g ↥b σ (upd H b (.tup [x,y])) λσ2 H2=>tb { D with nx:=Pv (i+1),ct:=Pv (i+1),bk:=D.nx } σ2 H2) (hd:∀σ H,Pv (min xs.length ys.length) σ H->D.nx σ H) :
   ∃W:Nat->Nat->St->Hp->Prop,(∃m,W 0 m σ H)/\∀i m σ H,W i m σ H->((jv K b1 b2 l1 l2).stop i H/\D.nx σ H)\/((jv K b1 b2 l1 l2).go i H/\∃N:St->Hp->Prop,(∀σ' H',N σ' H'->∃m',m'<m/\W (i+1) m' σ' H')/\∀x H',(jv K b1 b2 l1 l2).yld i H x H'->g x σ H' λσ2 H2=>tb { D with nx:=N,ct:=N,bk:=D.nx } σ2 H2):=by
 show#[λi m σ H=>m=min xs.length ys.length - i/\i<=min xs.length ys.length/\Pv i σ H,#[min xs.length ys.length,by simp,Jd _,h0],?_];rintro i m σ H ⟨rfl,hi,p⟩;let#[q1,q2]:=hl i σ H hi p;by_cases hlt:i<min xs.length ys.length
 . have l1':i<xs.length:=by lia
   have l2':i<ys.length:=by lia
   refine .inr #[#[xs,ys,xs[i],ys[i],q1,q2,by simp [l1'],by simp [l2']],Pv (i+1),λσ' H' p'=>#[min xs.length ys.length - (i+1),∅,rfl,hlt,p'],λx H' y=>?_];let#[b,rfl,hb,y]:=y;rw[y xs ys xs[i] ys[i] q1 q2 (by simp [l1']) (by simp [l2'])];exact hs i xs[i] ys[i] σ H b (by simp [l1']) (by simp [l2']) p hb
 . have e:i=min xs.length ys.length:=by lia
   subst e;refine .inl #[#[xs,ys,q1,q2,?_],hd σ H p];rcases Nat.le_total xs.length ys.length with h|h
   . left; rw[L6 h]; exact Jz (JG _)
   . right; rw[M9 h]; exact Jz (JG _)
end
structure ClsOk (K:W.Frag) (mg:Str->Option Value) (name:Str) (C:Addr):Prop where
 cl:Cls K C
 g:mg name=⇑↥C
structure MetOk (K:W.Frag) (C:Addr) (m qual:Str) (st:Stmt) (ps:List Str) (f:Addr) (fd:FuncData):Prop where
 F:Fun K m qual st f fd
 b:gH K fd ps []
 m:Meth K C m f
structure IniOk (K:W.Frag) (C:Addr) (qual:Str) (st:Stmt) (ps:List Str) (f:Addr) (fd:FuncData):Prop where
 F:Fun K "__init__" qual st f fd
 b:gH K fd ps []
 M:Mk K C f
section
variable {X:Cx} {k:Nat} {C f:MV} {fd:FuncData} {ps:List Str} {sp:Sp} {x m qual:Str} {st:Stmt} {p pos apos:Pos} {o e:Expr} {es:List Expr} {ta:TE} {t:TA}
def yd (Cc:ClsOk X.K X.mg x C) (D:IniOk X.K C qual st ps f fd) (G:FnOk X.prog X.w X.K X.mg X.base CX0 k f fd ps sp) (hr:Room (k+1) X.A) (ha:PA X (e::es) t) (hg:Gl X x:=by rfl)
   (hdb:(x==("__debug__":Str))=false:=by decide) (he:starEach (e::es) X.env=(false,eval e X.env)::starEach es X.env:=by rfl) (hpl:(backTo pos (starEach es X.env)).any (·.1)=false:=by rfl) :
   PE X (.Call (.Name x p) (e::es) [] pos) (qr C sp [] E0 t):=ym D.M G hr hg Cc.g D.b .nil xq ha hdb he hpl
def iQ {C:MV} {m qual:Str} {st:Stmt} {ps:List Str} {f:MV} {oc:MT} {od an:JM MV} {osl:Array (JM MT)} {kV doc pm cdv ct:MT}
   (a:PySem.W.findIn K ↥C m=⇑⇑↥f) (i:PySem.W.isFn K ↥f=true) (l:K.lookup f=⇑#[oc,od,.func (PySem.W.fnOf m qual (eg st) (eG st) (ai st) .none kV doc pm an cdv ct),osl]) (c:PySem.W.codeIn K cdv qual=true) (k:PySem.W.keepIn K ↥f=true)
   (b:∀(kV doc pm:MT) (an:JM MV) (cdv ct:MT) (us:List MT),us.length=ps.length->bindArgs (PySem.W.fnOf m qual (eg st) (eG st) (ai st) .none kV doc pm an cdv ct) #[us,[]]=pure (ps.zip us)) :
   MetOk K C m qual st ps f (PySem.W.fnOf m qual (eg st) (eG st) (ai st) .none kV doc pm an cdv ct) :=
 #[kW l c k,(kW l c k).binds b,#[a,i,k]]
def vZ {C:MV} {qual:Str} {st:Stmt} {ps:List Str} {f:MV} {oc:MT} {od an:JM MV} {osl:Array (JM MT)} {kV doc pm cdv ct:MT}
   (mk:PySem.W.makesIn K C=true) (kc:PySem.W.keepIn K ↥C=true) (a:PySem.W.findIn K ↥C "__init__"=⇑⇑↥f) (i:PySem.W.isFn K ↥f=true) (l:K.lookup f=⇑#[oc,od,.func (PySem.W.fnOf "__init__" qual (eg st) (eG st) (ai st) .none kV doc pm an cdv ct),osl]) (c:PySem.W.codeIn K cdv qual=true) (k:PySem.W.keepIn K ↥f=true)
   (b:∀(kV doc pm:MT) (an:JM MV) (cdv ct:MT) (us:List MT),us.length=ps.length->bindArgs (PySem.W.fnOf "__init__" qual (eg st) (eG st) (ai st) .none kV doc pm an cdv ct) #[us,[]]=pure (ps.zip us)) :
   IniOk K C qual st ps f (PySem.W.fnOf "__init__" qual (eg st) (eG st) (ai st) .none kV doc pm an cdv ct) :=
 #[kW l c k,(kW l c k).binds b,#[mk,a,i,kc]]
end
def dq {A:Around} (h:A.units+64<cLine):A.units+1<cLine:=by lia
section
variable {prog:Program} {w:World} {A:Around} {E:MT->MU->Prop} {s:MU}
open HT in
def GO {t sl:MV} {items:Array MT} {vl vu:MT} {lo hi:JM Int} {Q:MT->MU->Prop} (ht:IsTup s.heap t items) (hs:s.heap.IsSliceOf sl vl vu .none) (pl:IsPart vl lo) (pu:IsPart vu hi)
   (hw:sIx items.size 0 lo=0/\sIx items.size items.size hi=items.size) (h:Q ↥t s):wpAny 0x9 A (getItem ↥t ↥sl) Q E s:=by
 let#[os,hos,hcs,hds]:=id hs;have tS:s.TypeIs ↥sl "slice":=#[os,hos,hcs]
 unfold getItem; try with_reducible refine KY ?_
 first|refine J8 (JO ?_)|skip
 refine J8 (Lw ht.typeIs #[] ?_); refine J8 (wpAny_callSpecial?_slot (name:=Str.ofString "__getitem__") ht.typeIs K9 (Ka K9 ht.typeIs entry_tuple_getitem ?_ (args_tuple_getitem _ _)));show wpAny _ _ (Builtin.Tuple.tupleItemsOf ↥t >>= _) _ _ s; refine J8 (tupleItemsOf_ ht ?_); refine J8 (Lf tS ?_); rw[JJ #[]]; refine J8 (vd hs pl pu ?_);have yes:(((sIx items.size 0 lo:Nat):Int)==0&&(1:Int)==1&&(sIx items.size items.size hi - sIx items.size 0 lo)==items.size)=true:=by rw[hw.1,hw.2];simp
 show wpAny _ _ (if(((sIx items.size 0 lo:Nat):Int)==0&&(1:Int)==1&&(sIx items.size items.size hi - sIx items.size 0 lo)==items.size)=true then _ else _) _ _ s; rw[JJ yes];show wpAny _ _ (Builtin.Tuple.tupleIsExact ↥t >>= _) _ _ s;unfold Builtin.Tuple.tupleIsExact;refine J8 (J8 (Lf ht.typeIs (JO ?_)));rw[JJ #[]];exact J8 (L' (J8 (JO (JO #[5,JO h]))))
end
abbrev yh (K:MW):V->JM Int->JM Int->Hp->VK->Prop:=λx lo hi H Q=>∃a xs,x=↥a/\aJ K H a xs /\
 (HT.sIx xs.length 0 lo=0/\HT.sIx xs.length xs.length hi=xs.length)/\Q ↥a H
def GA :fk X (yh X.K):=by
 intro pins s σ H x v vl vu lo hi sl Q I rx hs pl pu h;let#[a,xs,rfl,hx,hw,q]:=h;cases rx;let#[its,r,ht,hz]:=I.tuple hx;have hlen:its.toArray.size=xs.length:=by rw[JV]; exact r.length.symm
 show#["tuple",_,K9.lookup,ht.typeIs,GO ht hs pl pu (by rw[hlen]; exact hw) #[↥a,H,I,rfl,q]]
abbrev qP (K:MW):V->JM Int->JM Int->Hp->VK->Prop:=λx lo hi H Q=>xx K x lo hi H Q\/yh K x lo hi H Q
def Fb :fk X (qP X.K):=Ir.or GA
def ET {Q:VK} {a:MV} {lo hi:JM Int} (h:aJ K H a xs) (q:∀p H',Same H H'->aJ K H' p (fV xs lo hi)->Q ↥p H'):qP K ↥a lo hi H Q:=by
 by_cases hw:HT.sIx xs.length 0 lo=0/\HT.sIx xs.length xs.length hi=xs.length
 . refine .inr #[a,xs,rfl,h,hw,q a H (Same.refl _) ?_];have:fV xs lo hi=xs:=by unfold fV;rw[hw.1,hw.2,List.drop_zero,Nat.sub_zero,Jh]
   rw[this];exact h
 . exact .inl #[a,xs,rfl,h,hw,λp hp=>q p _ (Same.new hp) (aJ.of aF)]
end L2
namespace K12
open PySem L2
abbrev step (acc:List Str) (s:Str):List Str:=if s∈acc then acc else acc++[s]
abbrev onceL (ss:List Str):List Str:=ss.foldl step []
abbrev ee (as:List V):List Str:=as.filterMap λv=>match v with | .str s=>⇑s|_=>none
def B9 (a b:List V):ee (a++b)=ee a++ee b:=List.filterMap_append ..
def HC (i:Int):ee [.int i]=[]:=rfl
def EM (acc:List Str) (s:Str):∀x∈acc,x∈step acc s:=λx hx=>by
 unfold step;split
 . exact hx
 . exact Kh _ hx
def Ch (acc:List Str) (s:Str):s∈step acc s:=by
 unfold step;split
 . assumption
 . exact Jk _ 0xB
def xm:∀(ss acc:List Str),∀x∈acc,x∈ss.foldl step acc
 | [],acc,x,hx=>hx
 | s::ss,acc,x,hx=>xm ss _ x (EM acc s x hx)
def ye:∀(ss acc:List Str),∀x∈ss,x∈ss.foldl step acc
 | s::ss,acc,x,hx=>by
   rcases JS.mp hx with e|e
   . subst e;exact xm ss _ _ (Ch acc _)
   . exact ye ss _ x e
def vt:∀(B:List Str) (acc C:List Str),(B.foldl step C).foldl step acc=B.foldl step (C.foldl step acc)
 | [],acc,C=>rfl
 | s::B,acc,C=>by
   rw[LF,vt B acc (step C s),LF];congr 1;unfold step;by_cases h:s∈C
   . rw[JJ h];have h2:s∈C.foldl step acc:=ye C acc s h;have h2':s∈List.foldl (λacc s=>if s∈acc then acc else acc++[s]) acc C:=h2;rw[JJ h2']
   . rw[JI h,KD];rfl
def DI (A B C:List Str):onceL (A++onceL B++C)=onceL (A++B++C):=by unfold onceL;rw[KD,KD,KD,KD];have e:=vt B (A.foldl step []) [];rw[e];rfl
def IJ (acc:List Str) (s:Str):(step acc s).length<=acc.length+1:=by
 unfold step;split
 . lia
 . simp
def Dz (ss:List Str):(onceL ss).length<=ss.length:=by
 have key:∀(ss acc:List Str),(ss.foldl step acc).length<=acc.length+ss.length:=by
   intro ss
   induction ss with
   | nil=>intro acc; simp
   | cons s ss ih =>
     intro acc;have h1:=ih (step acc s);have h2:=IJ acc s;rw[LF];simp only[JX]
     lia
 have:=key ss [];unfold onceL;simpa using this
abbrev cq (ss:List Str):List (aP×V):=ss.map λs=>(Sum.inr s,V.bl true)
def Gn (acc:List Str) (s:Str):b5 (cq acc) (Sum.inr s) (.bl true)=cq (step acc s):=by
 unfold b5 step;have e:((cq acc).any λkv=>decide (kv.1=(Sum.inr s:aP)))=decide (s∈acc):=by
   unfold cq;rw[List.any_map];rw[K5,List.any_eq_true];simp only[Function.comp,JL];constructor
   . rintro ⟨x,hx,h⟩;have:x=s:=Sum.inr.inj h;rw[<- this];exact hx
   . intro h;show#[s,h,rfl]
 rw[e];by_cases h:s∈acc
 . rw[Jg h,JJ rfl,JJ h];unfold cq;rw[Jm];apply KU;intro x _;show(if(Sum.inr x:aP)=Sum.inr s then((Sum.inr x:aP),V.bl true) else(Sum.inr x,V.bl true))=_;split <;> rfl
 . rw[J' h,JI #[],JI h];unfold cq;rw[JB];rfl
def xr:∀(ss acc:List Str),(cq ss).foldl (λacc kv=>b5 acc kv.1 kv.2) (cq acc)=cq (ss.foldl step acc)
 | [],acc=>rfl
 | s::ss,acc=>by show(cq ss).foldl _ (b5 (cq acc) (Sum.inr s) (.bl true))=_;rw[Gn];exact xr ss (step acc s)
def Gu (ss:List Str):(cq ss).foldl (λacc kv=>b5 acc kv.1 kv.2) []=cq (onceL ss):=xr ss []
def Ff (ss:List Str):((cq ss).map λkv=>kV kv.1)=ss.map V.str:=by unfold cq;rw[Jm];rfl
def DN {K:MW} {H:Hp} {a q:MV} {xs l l':List V} (h:aJ K H a xs) (hq:H q=⇑(.lst l)):aJ K (upd H q (.lst l')) a xs:=by
 rcases h with(h|⟨o,h⟩)|h
 . exact .inl (.inl (by rw[aR (jB h hq (by intro z; cases z))]; exact h))
 . exact .inl (.inr #[o,by rw[aR (jB h hq (by intro z; cases z))]; exact h])
 . exact .inr h
abbrev Nm (s:Str):Prop:=s.length<=1000/\PyData.strOk s=true
end K12
namespace K12
open PySem L2 PySem.W PyProof.Rows
inductive RowS (K:W.Frag) (H:Hp):List V->Option Str->List V->Prop
 | copy (x:Str) (a:V):RowS K H [.str "copy",.str x,a] ⇑x [a]
 | op (x s:Str) (a b:V):RowS K H [.str "op",.str x,.str s,a,b] ⇑x [a,b]
 | new (x:Str):RowS K H [.str "new",.str x] ⇑x []
 | get (x:Str) (a:V) (f:Str):RowS K H [.str "get",.str x,a,.str f] ⇑x [a]
 | put (a:V) (f:Str) (b:V):RowS K H [.str "put",a,.str f,b] none [a,b]
 | call (x f:Str) (p:Addr) (as:List V):aJ K H p as->RowS K H [.str "call",.str x,.str f,↥p] ⇑x as
 | out (a:V):RowS K H [.str "out",a] none [a]
 | back (a:V):RowS K H [.str "back",a] none [a]
 | ifs (a:V):RowS K H [.str "if",a] none [a]
 | whl (a:V):RowS K H [.str "while",a] none [a]
 | els:RowS K H [.str "else"] none []
 | fin:RowS K H [.str "end"] none []
def RowS.mono {K:MW} {H H':Hp} {xs:List V} {g:JM Str} {as:List V} (h:RowS K H xs g as) (e:Same H H'):RowS K H' xs g as:=by
 cases h with
 | call x f p as hp=>exact .call x f p as (e<*hp)
 | copy x a=>exact .copy x a
 | op x s a b=>exact .op x s a b
 | new x=>exact .new x
 | get x a f=>exact .get x a f
 | put a f b=>exact .put a f b
 | out a=>exact .out a
 | back a=>exact .back a
 | ifs a=>exact .ifs a
 | whl a=>exact .whl a
 | els=>exact .els
 | fin=>exact .fin
abbrev tabl:List (Str×List V):=[("copy",[.int 2]),("op",[.int 3,.int 4]),("new",[]),("get",[.int 2]),("put",[.int 1,.int 3]),("out",[.int 1]),("back",[.int 1]),("if",[.int 1]),("while",[.int 1]),("else",[]),("end",[])]
abbrev giving:List Str:=["copy","op","new","get","call"]
def HU {K:MW} {H:Hp} {xs:List V} {g:JM Str} {as:List V} (h:RowS K H xs g as):∃kd:Str,bo xs 0=⇑(.str kd) /\
   ((kd="call"/\∃p,bo xs 3=⇑↥p/\aJ K H p as)\/(kd≠"call"/\∃pl:List Int,KTD.datumAt kd tabl=⇑(pl.map V.int)/\pl.length=as.length/\∀(i:Nat) (a:V),as[i]?=⇑a->∃p,pl[i]?=⇑p/\bo xs p=⇑a)):=by
 cases h with
 | call x f p as hp=>show#["call",rfl,.inl #[rfl,p,rfl,hp]]
 | copy x a=>show#["copy",rfl,.inr #[by decide +kernel,[2],by decide +kernel,rfl,λi a' e=>by match i,e with|0,e=>exact⟨2,rfl,e⟩]]
 | op x s a b=>show#["op",rfl,.inr #[by decide +kernel,[3,4],by decide +kernel,rfl,λi a' e=>by match i,e with|0,e=>exact⟨3,rfl,e⟩|1,e=>exact⟨4,rfl,e⟩]]
 | new x=>show#["new",rfl,.inr #[by decide +kernel,[],by decide +kernel,rfl,λi a' e=>by simp at e]]
 | get x a f=>show#["get",rfl,.inr #[by decide +kernel,[2],by decide +kernel,rfl,λi a' e=>by match i,e with|0,e=>exact⟨2,rfl,e⟩]]
 | put a f b=>show#["put",rfl,.inr #[by decide +kernel,[1,3],by decide +kernel,rfl,λi a' e=>by match i,e with|0,e=>exact⟨1,rfl,e⟩|1,e=>exact⟨3,rfl,e⟩]]
 | out a=>show#["out",rfl,.inr #[by decide +kernel,[1],by decide +kernel,rfl,λi a' e=>by match i,e with|0,e=>exact⟨1,rfl,e⟩]]
 | back a=>show#["back",rfl,.inr #[by decide +kernel,[1],by decide +kernel,rfl,λi a' e=>by match i,e with|0,e=>exact⟨1,rfl,e⟩]]
 | ifs a=>show#["if",rfl,.inr #[by decide +kernel,[1],by decide +kernel,rfl,λi a' e=>by match i,e with|0,e=>exact⟨1,rfl,e⟩]]
 | whl a=>show#["while",rfl,.inr #[by decide +kernel,[1],by decide +kernel,rfl,λi a' e=>by match i,e with|0,e=>exact⟨1,rfl,e⟩]]
 | els=>show#["else",rfl,.inr #[by decide +kernel,[],by decide +kernel,rfl,λi a' e=>by simp at e]]
 | fin=>show#["end",rfl,.inr #[by decide +kernel,[],by decide +kernel,rfl,λi a' e=>by simp at e]]
abbrev xv:JM Str->V
 | some x=>.str x
 | none=>.non
def Gj {K:MW} {H:Hp} {xs:List V} {g:JM Str} {as:List V} (h:RowS K H xs g as):∃kd:Str,bo xs 0=⇑(.str kd) /\
   ((∃x,g=⇑x/\fP (.str kd) (giving.map V.str)=true/\bo xs 1=⇑(.str x))\/(g=none/\fP (.str kd) (giving.map V.str)=false)):=by
 cases h with
 | call x f p as hp=>show#["call",rfl,.inl #[x,rfl,by decide +kernel,rfl]]
 | copy x a=>show#["copy",rfl,.inl #[x,rfl,by decide +kernel,rfl]]
 | op x s a b=>show#["op",rfl,.inl #[x,rfl,by decide +kernel,rfl]]
 | new x=>show#["new",rfl,.inl #[x,rfl,by decide +kernel,rfl]]
 | get x a f=>show#["get",rfl,.inl #[x,rfl,by decide +kernel,rfl]]
 | put a f b=>show#["put",rfl,.inr #[rfl,by decide +kernel]]
 | out a=>show#["out",rfl,.inr #[rfl,by decide +kernel]]
 | back a=>show#["back",rfl,.inr #[rfl,by decide +kernel]]
 | ifs a=>show#["if",rfl,.inr #[rfl,by decide +kernel]]
 | whl a=>show#["while",rfl,.inr #[rfl,by decide +kernel]]
 | els=>show#["else",rfl,.inr #[rfl,by decide +kernel]]
 | fin=>show#["end",rfl,.inr #[rfl,by decide +kernel]]
def ID:(giving.map V.str).all gc=true:=by decide +kernel
abbrev Atom (v:V):Prop:=(∃s,v=.str s/\Nm s)\/∃i,v=.int i
structure RowD where
 r:Addr
 e:Addr
 a:Addr
 gx:Option Str
 as:List V
structure RowAt (K:W.Frag) (H:Hp) (d:RowD):Prop where
 row:∃xs,aJ K H d.r xs/\RowS K H xs d.gx d.as
 ats:∀v∈d.as,Atom v
 len:d.as.length<=10
 nm:∀x,d.gx=⇑x->Nm x
def RowAt.mono {K:MW} {H H':Hp} {d:RowD} (h:RowAt K H d) (e:Same H H'):RowAt K H' d :=
 #[by let#[xs,h1,h2]:=h.row; show#[xs,e<*h1,h2*>e],h.ats,h.len,h.nm]
structure FunAt (K:W.Frag) (H:Hp) (f:Addr) (ps:List Str) (ds:List RowD):Prop where
 fn:∃n b p r,aJ K H f [n,b,↥p,↥r]/\aJ K H p (ps.map V.str)/\aJ K H r (ds.map λd=>V.ref d.r)
 rows:∀d∈ds,RowAt K H d
 pn:∀s∈ps,Nm s
 pl:ps.length<=100
 dl:ds.length<=100
def FunAt.mono {K:MW} {H H':Hp} {f:MV} {ps:List Str} {ds:List RowD} (h:FunAt K H f ps ds) (e:Same H H'):FunAt K H' f ps ds :=
 #[by let#[n,b,p,r,h1,h2,h3]:=h.fn; show#[n,b,p,r,e<*h1,e<*h2,e<*h3],λd hd=>(h.rows d hd)*>e,h.pn,h.pl,h.dl]
abbrev rowStrs (d:RowD):List Str:=d.gx.toList++ee d.as
abbrev allOf (ps:List Str) (ds:List RowD):List Str:=ps++ds.flatMap rowStrs
def sP (as:List V):(ee as).length<=as.length:=List.length_filterMap_le _ _
end K12
namespace K12
open PySem L2
section
variable {P:Program} {w:World} {K:MW} {mg:Str->JM MT} {base:Heap}
abbrev Gives (H:Hp) (Q:VK) (vs:List V):Prop:=∀l H',Same H H'->H l=none->H' l=⇑(.lst vs)->Q ↥l H'
abbrev sp_gives (K:MW):Sp:=λvs H Q _=>∃(r:MV) (xs:List V) (g:JM Str) (as:List V),vs=[↥r]/\aJ K H r xs/\RowS K H xs g as/\Q (xv g) H
abbrev sp_atoms_of (K:MW):Sp:=λvs H Q _=>∃(r:MV) (xs:List V) (g:JM Str) (as:List V),vs=[↥r]/\aJ K H r xs/\RowS K H xs g as/\as.length<=10/\Gives H Q as
abbrev sp_each_once (K:MW):Sp:=λvs H Q _=>∃(p:MV) (ss:List Str),vs=[↥p]/\aH K H p (ss.map V.str)/\ss.length<=5000/\Gives H Q ((onceL ss).map V.str)
abbrev sp_reads (K:MW):Sp:=λvs H Q _=>∃(r:MV) (xs:List V) (g:JM Str) (as:List V),vs=[↥r]/\aJ K H r xs/\RowS K H xs g as/\as.length<=10/\(∀v∈as,Atom v)/\Gives H Q ((onceL (ee as)).map V.str)
abbrev sp_names_of (K:MW):Sp:=λvs H Q _=>∃(f:MV) (ps:List Str) (ds:List RowD),vs=[↥f]/\FunAt K H f ps ds/\Gives H Q ((onceL (allOf ps ds)).map V.str)
def bj {n:Nat} (h:n<1000000):n<=sizeLine:=by
 have:(1000000:Nat)<sizeLine:=by decide
 lia
def gR {n:Nat} (h:n<1000000):n<sizeLine:=by
 have:(1000000:Nat)<sizeLine:=by decide
 lia
def wP {fs P G B:List Str} (h:onceL fs=onceL P):onceL (fs++G++onceL B)=onceL (P++(G++B)):=by have e:=DI (fs++G) B [];rw[Jq,Jq] at e;rw[e,Jl];unfold onceL at h ⊢;rw[KD,h,<- KD]
abbrev lets:Str:="abcdefghijklmnopqrstuvwxyz"
def lets_ok:PyData.strOk lets=true:=by decide +kernel
end
end K12
namespace K13
open PySem L2
abbrev isO (s:Str):Bool:=decide (s="if") || decide (s="while")
abbrev isE (s:Str):Bool:=decide (s="else") || decide (s="end")
abbrev push (st:List Nat) (i:Nat) (s:Str):List Nat:=if isO s=true then i::st else if s="end" then st.tail else st
abbrev kd (ks:List Str) (i:Nat):Str:=ks.getD i ""
abbrev stk (ks:List Str):Nat->List Nat
 | 0=>[]
 | i+1=>push (stk ks i) i (kd ks i)
def fF (ks:List Str) (i:Nat):stk ks (i+1)=push (stk ks i) i (kd ks i):=rfl
def ia (ks:List Str):∀i,∀x∈stk ks i,x<i/\isO (kd ks x)=true
 | 0,x,h=>by cases h
 | i+1,x,h=>by
   rw[fF] at h;unfold push at h;split at h
   . rcases JS.mp h with e|e
     . subst e;show#[KG _,by assumption]
     . have:=ia ks i x e;show#[∅,this.2]
   . split at h
     . have:=ia ks i x (List.mem_of_mem_tail h);show#[∅,this.2]
     . have:=ia ks i x h;show#[∅,this.2]
variable {s:Str}
def Fk (h:isO s=true):¬ s="end":=by intro e;subst e;revert h;decide +kernel
def yU (h:isO s=true):¬ s="else":=by intro e;subst e;revert h;decide +kernel
def wS:isO ("end":Str)=false:=by decide +kernel
structure Wf (ks:List Str):Prop where
 open_:∀i,i<ks.length->isE (kd ks i)=true->stk ks i≠[]
 els:∀i b r,i<ks.length->kd ks i="else"->stk ks i=b::r->kd ks b="if"
 shut:stk ks ks.length=[]
 last:∀i,i+1=ks.length->kd ks i="back"
 pos:0<ks.length
abbrev At (ks:List Str) (b j d:Nat):Prop:=∃pre,stk ks j=pre++b::stk ks b/\pre.length+1=d
variable {ks:List Str} {b:Nat}
def vV (h:isO (kd ks b)=true):At ks b (b+1) 1:=#[[],by rw[fF]; unfold push; rw[JJ h]; rfl,rfl]
variable {j d:Nat}
def Br (h:At ks b j d) (ho:isO (kd ks j)=true):At ks b (j+1) (d+1):=by let#[pre,e,l]:=h;show#[j::pre,by rw[fF]; unfold push; rw[JJ ho,e]; rfl,by simp [l]]
def FQ (h:At ks b j (d+1)) (hd:0<d) (he:kd ks j="end"):At ks b (j+1) d:=by
 let#[pre,e,l]:=h;cases pre with
 | nil=>simp at l; lia
 | cons p pre =>
   show#[pre,?_,by simpa using l];rw[fF];unfold push;rw[he,JI (by rw[wS]; decide),JJ rfl,e];rfl
def EO (h:At ks b j d) (ho:¬ isO (kd ks j)=true) (he:¬ kd ks j="end"):At ks b (j+1) d:=by let#[pre,e,l]:=h;show#[pre,by rw[fF]; unfold push; rw[JI ho,JI he,e],l]
def CP (h:At ks b j 1):stk ks j=b::stk ks b:=by
 let#[pre,e,l]:=h;cases pre with
 | nil=>exact e
 | cons p pre=>simp at l
def wH (w:Wf ks) (h:At ks b j d) (hj:j<=ks.length):j<ks.length:=by
 rcases Jx j ks.length with q|q
 . exact q
 . have e:j=ks.length:=by lia
   subst e;let#[pre,e,_]:=h;rw[w.shut] at e;simp at e
def EW (h:At ks b j d):0<d:=by
 let#[pre,_,l]:=h
 lia
abbrev cj (ks:List Str) (b e:Nat):Prop:=b<e/\e<ks.length/\kd ks e="end"/\stk ks e=b::stk ks b/\∀j,b<j->j<=e->∃d,At ks b j d
def uO {ks:List Str} (w:Wf ks) {b:Nat}:∀(m j d:Nat),m=ks.length - j->j<=ks.length->b<j->(∀i,b<i->i<=j->∃d,At ks b i d)->At ks b j d->∃e,j<=e/\cj ks b e
 | 0,j,d,hm,hj,hb,hall,h=>absurd (wH w h hj) ∅
 | m+1,j,d,hm,hj,hb,hall,h=>by
   have hlt:=wH w h hj;have go:∀d',At ks b (j+1) d'->∃e,j<=e/\cj ks b e:=λd' h'=>by
     let#[e,he,q]:=uO w m (j+1) d' ∅ ∅ ∅ (λi h1 h2=>by
       rcases Jx j i with z|z
       . have:i=j+1:=by lia
         subst this;show#[d',h']
       . exact hall i h1 z) h'
     show#[e,∅,q]
   by_cases ho:isO (kd ks j)=true
   . exact go _ (Br h ho)
   by_cases he:kd ks j="end"
   . have hp:=EW h;by_cases hd:d=1
     . subst hd;show#[j,JG _,hb,hlt,he,CP h,hall]
     . obtain⟨d',rfl⟩:∃d',d=d'+1:=#[d - 1,∅]
       exact go _ (FQ h ∅ he)
   . exact go _ (EO h ho he)
def xg (w:Wf ks) (hb:b<ks.length) (ho:isO (kd ks b)=true):∃e,cj ks b e:=by
 let#[e,_,h]:=uO w (ks.length - (b+1)) (b+1) 1 rfl ∅ ∅ (λi h1 h2=>by
   have:i=b+1:=by lia
   subst this;show#[(1),vV ho]) (vV ho)
 show#[e,h]
abbrev dP (ks:List Str) (b k:Nat):Prop:=isE (kd ks k)=true/\(stk ks k).head?=⇑b
def tp {k:Nat}(h:dP ks b k):b<k/\isO (kd ks b)=true:=ia ks k b (List.mem_of_mem_head? h.2)
def rh {e:Nat}(h:cj ks b e):dP ks b e:=by
 show#[?_,?_]
 . rw[h.2.2.1]; decide +kernel
 . rw[h.2.2.2.1]; rfl
def xw {ks:List Str} {b e:Nat} (h:cj ks b e):∀j,e<j->b ∉ stk ks j
 | 0,hj,_=>by lia
 | j+1,hj,hm=>by
   rcases Jx e j with q|q
   . have ih:=xw h j q;rw[fF] at hm;unfold push at hm;split at hm
     . rcases JS.mp hm with z|z
       . have:=h.1
         lia
       . exact ih z
     . split at hm
       . exact ih (List.mem_of_mem_tail hm)
       . exact ih hm
   . have e1:j=e:=by lia
     subst e1;rw[fF] at hm;unfold push at hm;rw[h.2.2.1,JI (by rw[wS]; decide),JJ rfl,h.2.2.2.1] at hm;have:=(ia ks b b hm).1
     lia
def yL {e k:Nat}(h:cj ks b e) (hk:dP ks b k):k<=e:=by
 rcases Jx e k with q|q
 . exact absurd (List.mem_of_mem_head? hk.2) (xw h k q)
 . exact q
abbrev one (ks:List Str) (i:Nat):List (Nat×Nat):=if isE (kd ks i)=true then(match stk ks i with | []=>[] | b::_=>[(i,b)]) else []
abbrev bd (ks:List Str):Nat->List (Nat×Nat)
 | 0=>[]
 | i+1=>bd ks i++one ks i
abbrev fj (L:List (Nat×Nat)) (b:Nat):JM Nat:=L.foldl (λacc p=>if p.2=b then ⇑p.1 else acc) none
abbrev cr (L:List (Nat×Nat)) (b:Nat):JM Nat:=L.foldl (λacc p=>if acc.isSome=true then acc else if p.2=b then ⇑p.1 else none) none
def jA (ks:List Str) (i:Nat):(∃b,one ks i=[(i,b)]/\dP ks b i)\/(one ks i=[]/\∀b,¬ dP ks b i):=by
 unfold one dP;by_cases h:isE (kd ks i)=true
 . rw[JJ h];cases q:stk ks i with
   | nil=>exact .inr #[rfl,λb z=>by simp at z]
   | cons b r=>exact .inl #[b,rfl,h,rfl]
 . rw[JI h];exact .inr #[rfl,λb z=>h z.1]
def vG (L:List (Nat×Nat)) (p:Nat×Nat) (b:Nat):fj (L++[p]) b=if p.2=b then ⇑p.1 else fj L b:=by unfold fj; rw[KD]; rfl
def yi (L:List (Nat×Nat)) (p:Nat×Nat) (b:Nat):cr (L++[p]) b=if(cr L b).isSome=true then cr L b else if p.2=b then ⇑p.1 else none:=by unfold cr; rw[KD]; rfl
def pF {b' k:Nat}(h:dP ks b k) (h':dP ks b' k):b=b':=by have:=h.2.symm\h'.2;simpa using this
def yo (ks:List Str) (b:Nat):∀i,(∀m,fj (bd ks i) b=⇑m->m<i/\dP ks b m/\∀k,m<k->k<i->¬ dP ks b k)/\(fj (bd ks i) b=none->∀k,k<i->¬ dP ks b k)
 | 0=>#[λm h=>(by cases h),λ_ k hk=>∅]
 | i+1=>by
   let#[ih1,ih2]:=yo ks b i;show(∀m,fj (bd ks i++one ks i) b=⇑m->_)/\(fj (bd ks i++one ks i) b=none->_)
   rcases jA ks i with⟨b',e,hh⟩|⟨e,hn⟩
   . rw[e,vG];by_cases hb:b'=b
     . rw[JJ hb];subst hb;show#[λm h=>by cases h; show#[KG _,hh,λk h1 h2=>by lia],λh=>by cases h]
     . rw[JI hb];show#[λm h=>?_,λh k hk=>?_]
       . let#[h1,h2,h3]:=ih1 m h;show#[∅,h2,λk q1 q2 hk=>?_];rcases Jx k i with z|z
         . exact h3 k q1 z hk
         . have:k=i:=by lia
           subst this;exact hb (pF hh hk)
       . intro hk';rcases Jx k i with z|z
         . exact ih2 h k z hk'
         . have:k=i:=by lia
           subst this;exact hb (pF hh hk')
   . rw[e,Jq];show#[λm h=>?_,λh k hk hk'=>?_]
     . let#[h1,h2,h3]:=ih1 m h;show#[∅,h2,λk q1 q2 hk=>?_];rcases Jx k i with z|z
       . exact h3 k q1 z hk
       . have:k=i:=by lia
         subst this;exact hn b hk
     . rcases Jx k i with z|z
       . exact ih2 h k z hk'
       . have:k=i:=by lia
         subst this;exact hn b hk'
def mS (ks:List Str) (b:Nat):∀i,(∀m,cr (bd ks i) b=⇑m->m<i/\dP ks b m/\∀k,k<m->¬ dP ks b k)/\(cr (bd ks i) b=none->∀k,k<i->¬ dP ks b k)
 | 0=>#[λm h=>(by cases h),λ_ k hk=>∅]
 | i+1=>by
   let#[ih1,ih2]:=mS ks b i;show(∀m,cr (bd ks i++one ks i) b=⇑m->_)/\(cr (bd ks i++one ks i) b=none->_)
   rcases jA ks i with⟨b',e,hh⟩|⟨e,hn⟩
   . rw[e,yi];cases hf:cr (bd ks i) b with
     | some m0 =>
       rw[JJ (show(⇑m0).isSome=true from rfl)];let#[h1,h2,h3]:=ih1 m0 hf;show#[λm h=>by cases h; show#[∅,h2,h3],λh=>by cases h]
     | none =>
       rw[JI (show ¬ (none:JM Nat).isSome=true by decide)];have hno:=ih2 hf;by_cases hb:b'=b
       . rw[JJ hb];subst hb;show#[λm h=>by cases h; show#[KG _,hh,λk hk=>hno k hk],λh=>by cases h]
       . rw[JI hb];show#[λm h=>(by cases h),λ_ k hk hk'=>?_];rcases Jx k i with z|z
         . exact hno k z hk'
         . have:k=i:=by lia
           subst this;exact hb (pF hh hk')
   . rw[e,Jq];show#[λm h=>?_,λh k hk hk'=>?_]
     . let#[h1,h2,h3]:=ih1 m h;show#[∅,h2,h3]
     . rcases Jx k i with z|z
       . exact ih2 h k z hk'
       . have:k=i:=by lia
         subst this;exact hn b hk'
def Dw {e:Nat}(h:cj ks b e):fj (bd ks ks.length) b=⇑e:=by
 let#[h1,h2]:=yo ks b ks.length;cases q:fj (bd ks ks.length) b with
 | none=>exact absurd (rh h) (h2 q e h.2.1)
 | some m =>
   let#[q1,q2,q3]:=h1 m q;have:=yL h q2;rcases Jx m e with z|z
   . exact absurd (rh h) (q3 e z h.2.1)
   . have:m=e:=by lia
     rw[this]
abbrev jb (ks:List Str) (b f:Nat):Prop:=f<ks.length/\dP ks b f/\∀k,k<f->¬ dP ks b k
def GZ {f f':Nat}(h:jb ks b f) (h':jb ks b f'):f=f':=by
 rcases Nat.lt_trichotomy f f' with z|z|z
 . exact absurd h.2.1 (h'.2.2 f z)
 . exact z
 . exact absurd h'.2.1 (h.2.2 f' z)
def Cz {f:Nat}(h:jb ks b f):cr (bd ks ks.length) b=⇑f:=by
 let#[h1,h2]:=mS ks b ks.length;cases q:cr (bd ks ks.length) b with
 | none=>exact absurd h.2.1 (h2 q f h.1)
 | some m =>
   let#[q1,q2,q3]:=h1 m q;rw[GZ (#[q1,q2,q3]:jb ks b m) h]
def EY (h:¬ isO (kd ks b)=true):cr (bd ks ks.length) b=none:=by
 let#[h1,h2]:=mS ks b ks.length;cases q:cr (bd ks ks.length) b with
 | none=>rfl
 | some m=>exact absurd (tp (h1 m q).2.1).2 h
inductive Beh (ks:List Str):Nat->Nat->Prop
 | els {k b e r:Nat}:kd ks (k+1)="else"->(stk ks (k+1)).head?=⇑b->cj ks b e->Beh ks e r->Beh ks k r
 | whl {k b:Nat}:kd ks (k+1)="end"->(stk ks (k+1)).head?=⇑b->kd ks b="while"->Beh ks k b
 | fin {k b r:Nat}:kd ks (k+1)="end"->(stk ks (k+1)).head?=⇑b->¬ kd ks b="while"->Beh ks (k+1) r->Beh ks k r
 | oth {k:Nat}:¬ kd ks (k+1)="else"->¬ kd ks (k+1)="end"->Beh ks k (k+1)
def sU:¬ (("else":Str)="end"):=by decide +kernel
def yk:¬ (("back":Str)="else")/\¬ (("back":Str)="end"):=by decide +kernel
def vX (h:isO s=true):¬ isE s=true:=by unfold isE;rw[J' (yU h),J' (Fk h)];decide
def GF (h1:¬ s="else") (h2:¬ s="end"):¬ isE s=true:=by unfold isE;rw[J' h1,J' h2];decide
inductive Due (ks:List Str):Nat->Option (List Nat)->Prop
 | no {k:Nat}:isE (kd ks k)=true->Due ks k none
 | back {k:Nat}:kd ks k="back"->Due ks k ⇑[]
 | two {k f r1 r2:Nat}:isO (kd ks k)=true->jb ks k f->Beh ks k r1->Beh ks f r2->Due ks k ⇑[r1,r2]
 | one {k r:Nat}:¬ isE (kd ks k)=true->¬ kd ks k="back"->¬ isO (kd ks k)=true->Beh ks k r->Due ks k ⇑[r]
def xW:¬ isE ("back":Str)=true:=by decide +kernel
def Ev:¬ isO ("back":Str)=true:=by decide +kernel
def Ew {e:Nat}(h:cj ks b e):∃f,jb ks b f:=by
 let#[h1,h2]:=mS ks b ks.length;cases q:cr (bd ks ks.length) b with
 | none=>exact absurd (rh h) (h2 q e h.2.1)
 | some m =>
   let#[q1,q2,q3]:=h1 m q;show#[m,q1,q2,q3]
def vh (w:Wf ks) {k:Nat} (hk:k<ks.length) (h:¬ kd ks k="back"):k+1<ks.length:=by
 rcases Jx (k+1) ks.length with z|z
 . exact z
 . exact absurd (w.last k ∅) h
def CH (w:Wf ks) {f:Nat}(h:jb ks b f):f+1<ks.length:=by refine vh w h.1 λz=>?_;have:=h.2.1.1;rw[z] at this;exact xW this
variable {i:Nat}
def kL {ys:List Str}(h:i<ks.length):kd (ks++ys) i=kd ks i:=by unfold kd;rw[JH,JH,KC h]
def FE (ks ys:List Str) (i:Nat):kd (ks++ys) (ks.length+i)=kd ys i:=by unfold kd;rw[JH,JH,K1 (LZ _ _),LQ]
def km (ks:List Str) (x:Str):kd (ks++[x]) ks.length=x:=by have:=FE ks [x] 0;rw[Nat.add_zero] at this;rw[this];rfl
def na (ks ys:List Str):∀i,i<=ks.length->stk (ks++ys) i=stk ks i
 | 0,_=>rfl
 | i+1,h=>by rw[fF,fF,na ks ys i ∅,kL ∅]
structure Good (ks os:List Str):Prop where
 open_:∀i,i<ks.length->isE (kd ks i)=true->stk ks i≠[]
 els:∀i b r,i<ks.length->kd ks i="else"->stk ks i=b::r->kd ks b="if"
 len:(stk ks ks.length).length=os.length
 mt:∀(i b:Nat),(stk ks ks.length)[i]?=⇑b->os[i]?=some "if"->kd ks b="if"
def good_nil:Good [] []:=#[λi h=>absurd h (Js i),λi _ _ h=>absurd h (Js i),rfl,λi b h=>by cases h]
def xZ (ks:List Str) (x:Str):stk (ks++[x]) (ks++[x]).length=push (stk ks ks.length) ks.length x:=by rw[JE];show stk (ks++[x]) (ks.length+1)=_;rw[fF,na _ _ _ (JG _),km]
variable {os:List Str}
def Good.snoc {os':List Str}{x:Str} (g:Good ks os) (ho:isE x=true->os≠[]) (he:x="else"->∃r,os=("if":Str)::r)
   (hl:(push (stk ks ks.length) ks.length x).length=os'.length) (hm:∀(i b:Nat),(push (stk ks ks.length) ks.length x)[i]?=⇑b->os'[i]?=some "if"->kd (ks++[x]) b="if"):Good (ks++[x]) os':=by
 have hn:(ks++[x]).length=ks.length+1:=by rw[JE]; rfl
 show#[λi h hE=>?_,λi b r h hE hs=>?_,by rw[xZ]; exact hl,by rw[xZ]; exact hm]
 . rw[na _ _ _ ∅];rcases Jx i ks.length with z|z
   . rw[kL z] at hE;exact g.open_ i z hE
   . have:i=ks.length:=by lia
     subst this;rw[km] at hE;intro e;have:=g.len;rw[e] at this;exact ho hE (KF.mp this.symm)
 . rw[na _ _ _ ∅] at hs;rcases Jx i ks.length with z|z
   . rw[kL z] at hE;have hb:=(ia ks i b (by rw[hs]; exact Je)).1;rw[kL ∅];exact g.els i b r z hE hs
   . have:i=ks.length:=by lia
     subst this;rw[km] at hE;let#[r',e]:=he hE;have hb:=(ia ks ks.length b (by rw[hs]; exact Je)).1;rw[kL hb];exact g.mt 0 b (by rw[hs]; rfl) (by rw[e]; rfl)
def Good.keep (g:Good ks os) (x:Str) (h:(stk ks ks.length)[i]?=⇑b) (h':os[i]?=some "if"):kd (ks++[x]) b="if":=by have hb:=(ia ks ks.length b (J9 h)).1;rw[kL hb];exact g.mt i b h h'
def Good.opn {x:Str} (g:Good ks os) (ho:isO x=true):Good (ks++[x]) (x::os):=by
 have e:push (stk ks ks.length) ks.length x=ks.length::stk ks ks.length:=by unfold push; rw[JJ ho]
 refine g.snoc (λz=>absurd z (vX ho)) (λz=>absurd z (yU ho)) (by rw[e,JX,JX,g.len]) ?_;rw[e];intro i b h h';cases i with
 | zero =>
   have h1:ks.length=b:=↑h
   have h2:x="if":=↑h'
   rw[<- h1,km];exact h2
 | succ i=>exact g.keep x ↑h ↑h'
def Good.plain {x:Str} (g:Good ks os) (h1:¬ isO x=true) (h2:¬ isE x=true) (h3:¬ x="end"):Good (ks++[x]) os:=by
 have e:push (stk ks ks.length) ks.length x=stk ks ks.length:=by unfold push; rw[JI h1,JI h3]
 refine g.snoc (λz=>absurd z h2) (λz=>absurd (by rw[z]; decide +kernel) h2) (by rw[e,g.len]) ?_;rw[e];intro i b h h';exact g.keep x h h'
def Good.els' {r:List Str}(g:Good ks (("if":Str)::r)):Good (ks++[("else":Str)]) (("else":Str)::r):=by
 have e:push (stk ks ks.length) ks.length "else"=stk ks ks.length:=by unfold push; rw[JI 0xA,JI sU]
 refine g.snoc (λ_=>La _ _) (λ_=>#[r,rfl]) (by rw[e,g.len]; rfl) ?_;rw[e];intro i b h h';cases i with
 | zero =>
   have:("else":Str)="if":=↑h'
   exact absurd this 0xA
 | succ i=>exact g.keep _ h ↑h'
def Good.fin {r:List Str}{o:Str} (g:Good ks (o::r)):Good (ks++[("end":Str)]) r:=by
 have e:push (stk ks ks.length) ks.length "end"=(stk ks ks.length).tail:=by unfold push; rw[JI 0xA,JJ rfl]
 have l:=g.len;rw[JX] at l;refine g.snoc (λ_=>La _ _) (λz=>absurd z.symm sU) (by rw[e,List.length_tail]; lia) ?_;rw[e];intro i b h h';rw[List.getElem?_tail] at h;exact g.keep _ h ↑h'
def Good.back (g:Good ks []):Wf (ks++[("back":Str)]):=by
 have hs:stk ks ks.length=[]:=KF.mp g.len;have g':=g.plain Ev xW 0xA;show#[g'.open_,g'.els,KF.mp g'.len,λi h=>?_,by rw[JE]; exact Nat.succ_pos _];have:i=ks.length:=by rw[JE] at h; simpa using h
 rw[this,km]
structure RowsAt (K:W.Frag) (H:Hp) (a:Addr) (ks:List Str):Prop where
 ex:∃rs:List Addr,aJ K H a (rs.map V.ref)/\rs.length=ks.length/\∀i r,rs[i]?=⇑r->∃rest,aJ K H r (V.str (kd ks i)::rest)
variable {H:Hp}
def RowsAt.mono {K:MW} {H':Hp}{a:MV} (h:RowsAt K H a ks) (e:Same H H'):RowsAt K H' a ks :=
 #[by let#[rs,h1,h2,h3]:=h.ex; show#[rs,e<*h1,h2,λi r q=>by let#[rest,z]:=h3 i r q; show#[rest,e<*z]]]
def bH {x:V} {r:List V}:bo (x::r) 0=⇑x:=by unfold bo dM;rw[JJ #[],JJ 0xB];rfl
def ixk {K:MW} {Q:VK} {a:MV} {i:Int} (h:RowsAt K H a ks) (h0:0<=i) (h1:i<ks.length) (q:Q (.str (kd ks i.toNat)) H):oM K ↥a (.int i) H λx H1=>oM K x (.int 0) H1 Q:=by
 let#[rs,e1,e2,e3]:=h.ex;have hi:i.toNat<rs.length:=by lia
 let#[rest,hr]:=e3 i.toNat rs[i.toNat] (by simp [hi]);show#[a,_,i,.ref rs[i.toNat],7,e1,?_,rs[i.toNat],_,(0),11,hr,bH,q];have e:bo (rs.map V.ref) i=⇑(V.ref rs[i.toNat]):=by unfold bo dM;rw[JJ h0,JJ (by rw[J7]; lia),MA,JC];simp [hi]
 exact e
abbrev hU (L:List (Nat×Nat)):List (aP×V):=L.map λp=>(Sum.inl (p.1:Int),V.int (p.2:Int))
abbrev bg (ks:List Str) (i:Nat):List (aP×V):=hU (bd ks i)
def vg (ks:List Str):∀i,∀p∈bd ks i,p.1<i
 | 0,p,h=>by cases h
 | i+1,p,h=>by
   rcases JZ.mp h with h|h
   . have:=vg ks i p h
     lia
   . rcases jA ks i with⟨b,e,_⟩|⟨e,_⟩
     . rw[e] at h;have:p=(i,b):=↑h
       rw[this];exact KG _
     . rw[e] at h;cases h
def Ep (ks:List Str) (i:Nat):bf (bg ks i) (Sum.inl (i:Int):aP)=none:=by
 have h:=jw (Sum.inl (i:Int):aP) (bg ks i);cases q:bf (bg ks i) (Sum.inl (i:Int):aP) with
 | none=>rfl
 | some v =>
   rw[q] at h;let#[kv,hm,e]:=List.any_eq_true.mp h;let#[p,hp,rfl]:=JW.mp hm;have e:=LR e;have:(p.1:Int)=(i:Int):=Sum.inl.inj e;have:=vg ks i p hp
   lia
def pN (h:dP ks b i):b5 (bg ks i) (Sum.inl (i:Int):aP) (V.int (b:Int))=bg ks (i+1):=by
 rw[yI _ (Ep ks i)];rcases jA ks i with⟨b',e,h'⟩|⟨e,h'⟩
 . show hU (bd ks i)++_=hU (bd ks i++one ks i);rw[e,pF h h'];unfold hU;rw[JB];rfl
 . exact absurd h (h' b)
def uo (h:¬ isE (kd ks i)=true):bg ks (i+1)=bg ks i:=by
 rcases jA ks i with⟨b',e,h'⟩|⟨e,h'⟩
 . exact absurd h'.1 h
 . show hU (bd ks i++one ks i)=_;rw[e,Jq];rfl
def tJ (ks:List Str):∀i,(bd ks i).length<=i
 | 0=>JG _
 | i+1=>by have:=tJ ks i;show(bd ks i++one ks i).length<=i+1;rw[JE];rcases jA ks i with⟨b',e,h'⟩|⟨e,h'⟩ <;> rw[e] <;> simp <;> lia
def tY (ks:List Str) (i:Nat):(bg ks i).length<=i:=by unfold bg hU; rw[J7]; exact tJ ks i
abbrev ff (ks:List Str) (i:Nat):List V:=(stk ks i).reverse.map λ(n:Nat)=>V.int (n:Int)
def Dq (ks:List Str):∀i,(ff ks i).length<=i:=by
 intro i;unfold ff;rw[J7,List.length_reverse]
 induction i with
 | zero=>exact JG _
 | succ i ih =>
   rw[fF];unfold push;split
   . simp; lia
   . split
     . simp; lia
     . lia
def inO (s:Str):fP (.str s) [V.str "if",V.str "while"]=isO s:=by show((("if":Str)==s) || ((("while":Str)==s) || false))=isO s;unfold isO;rw[Ls];congr 1 <;> (rw[K5,LP,JL]; exact eq_comm)
def inE (s:Str):fP (.str s) [V.str "else",V.str "end"]=isE s:=by show((("else":Str)==s) || ((("end":Str)==s) || false))=isE s;unfold isE;rw[Ls];congr 1 <;> (rw[K5,LP,JL]; exact eq_comm)
def c8:0<=sizeLine:=by decide
def ci:1<=sizeLine:=by decide
def bI:2<=sizeLine:=by decide
def gR {n:Nat} (h:n<1000000):n<sizeLine:=by
 have:(1000000:Nat)<sizeLine:=by decide
 lia
def z6 {r:List Nat} (h:stk ks i=b::r):bo (ff ks i) (-1)=⇑(.int (b:Int))/\(ff ks i)[(ff ks i).length - 1]?=⇑(.int (b:Int))/\(ff ks i).dropLast=r.reverse.map λ(n:Nat)=>V.int (n:Int):=by
 have e:ff ks i=(r.reverse.map λ(n:Nat)=>V.int (n:Int))++[V.int (b:Int)]:=by unfold ff;rw[h,List.reverse_cons,JB];rfl
 rw[e];show#[?_,by simp,by simp];unfold bo dM;rw[JI #[],JJ (by simp; lia),MA];have:((-1:Int)+(((r.reverse.map λ(n:Nat)=>V.int (n:Int))++[V.int (b:Int)]).length:Int)).toNat=(r.reverse.map λ(n:Nat)=>V.int (n:Int)).length:=by
   rw[JE];simp
   lia
 rw[this];simp
def uN {K:MW} {a q:MV} {xs:List V} {kvs:List (aP×V)} {o:HO} (h:aJ K H a xs) (hq:H q=⇑(.dK kvs)):aJ K (upd H q o) a xs:=by
 rcases h with(h|⟨o,h⟩)|h
 . exact .inl (.inl (by rw[aR (jB h hq (by intro z; cases z))]; exact h))
 . exact .inl (.inr #[o,by rw[aR (jB h hq (by intro z; cases z))]; exact h])
 . exact .inr h
def RowsAt.frz {K:MW} {H:Hp} {a q:MV} {ks:List Str} {kvs:List (aP×V)} {o:HO} (h:RowsAt K H a ks) (hq:H q=⇑(.dK kvs)):RowsAt K (upd H q o) a ks :=
 #[by let#[rs,h1,h2,h3]:=h.ex; show#[rs,uN h1 hq,h2,λi r z=>by let#[rest,y]:=h3 i r z; show#[rest,uN y hq]]]
abbrev wq (H:Hp) (l:MV) (ks:List Str):Prop:=∃bs,H l=⇑(.lst bs)/\bs.length=ks.length/\∀k,k+1<ks.length->∃r:Nat,Beh ks k r/\bs[k]?=⇑(.int (r:Int))
abbrev yA (n:Nat):List V:=(List.replicate n [V.non]).flatten
def C4 (n:Nat):(yA n).length=n:=by unfold yA; rw[jz]; simp
def uq {k:Nat}(n:Nat) (hk:k<n) (h:dP ks b k):bf (bg ks n) (Sum.inl (k:Int):aP)=⇑(.int (b:Int)):=by
 induction n with
 | zero=>lia
 | succ n ih =>
   rcases Jx k n with z|z
   . rcases jA ks n with⟨b',e,h'⟩|⟨e,h'⟩
     . rw[<- pN h',ky,JI (λz'=>by have:(k:Int)=(n:Int):=Sum.inl.inj z'; lia)];exact ih z
     . have:bg ks (n+1)=bg ks n:=by show hU (bd ks n++one ks n)=_;rw[e,Jq];rfl
       rw[this];exact ih z
   . have:k=n:=by lia
     subst this;rw[<- pN h,ky,JJ rfl]
def xh {n:Nat}{kv:aP×V} (h:(bg ks n)[i]?=⇑kv):∃p:Nat×Nat,(bd ks n)[i]?=⇑p/\kv=(Sum.inl (p.1:Int),V.int (p.2:Int)):=by
 unfold bg hU at h;rw[JC] at h;cases q:(bd ks n)[i]? with
 | none=>rw[q] at h; cases h
 | some p=>rw[q] at h; show#[p,rfl,by simpa using h.symm]
abbrev C5 (l:List Nat):List V:=l.map λ(n:Nat)=>V.int (n:Int)
abbrev hJ (H:Hp) (v:V):JM (List Nat)->Prop
 | none=>v=.non
 | some l=>∃p,v=↥p/\H p=⇑(.tup (C5 l))
def hJ.mono {H':Hp}{v:V} {o:JM (List Nat)} (h:hJ H v o) (e:Same H H'):hJ H' v o:=by
 cases o with
 | none=>exact h
 | some l=>let#[p,h1,h2]:=h; show#[p,h1,e _ _ h2]
def hJ.lst {H:Hp} {q:MV} {l l':List V} {v:V} {o:JM (List Nat)} (h:hJ H v o) (hq:H q=⇑(.lst l)):hJ (upd H q (.lst l')) v o:=by
 cases o with
 | none=>exact h
 | some l=>let#[p,h1,h2]:=h; show#[p,h1,by rw[aR (jB h2 hq (by intro z; cases z))]; exact h2]
abbrev FoundN (H:Hp) (l:MV) (ks:List Str) (i:Nat):Prop:=∃vs:List V,H l=⇑(.lst vs)/\vs.length=i/\∀k v,vs[k]?=⇑v->∃o,Due ks k o/\hJ H v o
def FoundN.mono {H H':Hp} {l:MV} {ks:List Str} {i:Nat} (h:FoundN H l ks i) (e:Same H H'):FoundN H' l ks i :=
 by let#[vs,h1,h2,h3]:=h; show#[vs,e _ _ h1,h2,λk v q=>by let#[o,d,z]:=h3 k v q; show#[o,d,z*>e]]
def FoundN.push {l:MV} {vs:List V} {v:V} {o:JM (List Nat)} (h1:H l=⇑(.lst vs)) (h2:vs.length=i) (h3:∀k v,vs[k]?=⇑v->∃o,Due ks k o/\hJ H v o) (hd:Due ks i o) (hv:hJ H v o):FoundN (upd H l (.lst (vs++[v]))) l ks (i+1):=by
 show#[_,aF,by rw[JE,h2]; rfl,λk v' q=>?_];rcases Jx k vs.length with z|z
 . rw[KC z] at q;let#[o',d,y]:=h3 k v' q;show#[o',d,y.lst h1]
 . rw[K1 z] at q;have hk:k - vs.length=0:=by
     rcases Nat.eq_zero_or_pos (k - vs.length) with y|y
     . exact y
     . rw[Jz (by simp; lia)] at q;cases q
   rw[hk] at q;have hv':v=v':=↑q
   subst hv';have:k=i:=by lia
   subst this;show#[o,hd,hv.lst h1]
section
variable {P:Program} {w:World} {K:MW} {mg:Str->JM MT} {base:Heap}
abbrev sp_begins_of (K:MW):Sp:=λvs H Q _=>∃(a:MV) (ks:List Str),vs=[↥a]/\RowsAt K H a ks/\Wf ks/\ks.length<=1000/\∀d H',Same H H'->H d=none->H' d=⇑(.dK (bg ks ks.length))->Q ↥d H'
abbrev sp_firsts_behind (K:MW):Sp:=λvs H Q _=>∃(a d:MV) (ks:List Str),vs=[↥a,↥d]/\RowsAt K H a ks/\Wf ks/\ks.length<=1000/\H d=⇑(.dK (bg ks ks.length))/\∀l o H',Same (upd H d (.frz o (.dK (bg ks ks.length)))) H'->H l=none->wq H' l ks->Q ↥l H'
abbrev sp_ways (K:MW):Sp:=λvs H Q _=>∃(a:MV) (ks:List Str),vs=[↥a]/\RowsAt K H a ks/\Wf ks/\ks.length<=1000/\∀l H',Same H H'->H l=none->FoundN H' l ks ks.length->Q ↥l H'
def bj {n:Nat} (h:n<1000000):n<=sizeLine:=by
 have:(1000000:Nat)<sizeLine:=by decide
 lia
end
end K13
namespace Fl
open PySem L2 Gx
structure Rw where
 r:Addr
 k:Str
 c:Str
structure Fd where
 name:Str
 fa:Addr
 ra:Addr
 rs:List Rw
abbrev ke (K:MW) (H:Hp) (w:Rw):Prop:=∃rest,aJ K H w.r (V.str w.k::rest)/\(w.k="call"->∃x y,rest=[x,.str w.c,y])
variable {H:Hp}
def ke.mono {K:MW} {H':Hp}{w:Rw} (e:Same H H') (h:ke K H w):ke K H' w:=by let#[rest,h1,h2]:=h; show#[rest,e<*h1,h2]
structure FnAt (K:W.Frag) (H:Hp) (f:Fd):Prop where
 fn:∃fo pa,aJ K H f.fa [.str f.name,fo,↥pa,↥f.ra]
 rw_:aJ K H f.ra (f.rs.map λw=>V.ref w.r)
 rk:∀w∈f.rs,ke K H w
 fu:∃ps ds,K12.FunAt K H f.fa ps ds
 wf:K13.Wf (f.rs.map (·.k))
 len:f.rs.length<=100
def FnAt.mono {K:MW} {H H':Hp} {f:Fd} (e:Same H H') (h:FnAt K H f):FnAt K H' f :=
 #[by let#[a,b,z]:=h.fn; show#[a,b,e<*z],e<*h.rw_,λw hw=>(h.rk w hw)*>e,by let#[a,b,z]:=h.fu; show#[a,b,z*>e],h.wf,h.len]
def FnAt.rows {K:MW} {f:Fd} (h:FnAt K H f):K13.RowsAt K H f.ra (f.rs.map (·.k)):=by
 show#[f.rs.map (·.r),by rw[Jm]; exact h.rw_,by rw[J7,J7],λi r hr=>?_];rw[JC] at hr;cases e:f.rs[i]? with
 | none=>rw[e] at hr; cases hr
 | some w =>
   rw[e] at hr;cases hr;let#[rest,h1,_]:=h.rk w (J9 e);show#[rest,?_];have:K13.kd (f.rs.map (·.k)) i=w.k:=by unfold K13.kd;rw[JH,JC,e];rfl
   rw[this];exact h1
structure FS (C:Addr) (H:Hp) (x dx:Addr) (fs:List (Str×V)) (d:Nat->Addr) (kv:Nat->List (aP×V)):Prop where
 ob:H x=⇑(.ins C dx fs)
 dc:∀j,j<6->H (d j)=⇑(.dK (kv j))
def FS.mono {C:MV} {H':Hp}{x dx:MV} {fs:List (Str×V)} {d:Nat->MV} {kv:Nat->List (aP×V)} (e:Same H H') (h:FS C H x dx fs d kv):FS C H' x dx fs d kv:=#[e _ _ h.ob,λj hj=>e _ _ (h.dc j hj)]
def FS.put {C:MV} {x dx:MV} {fs:List (Str×V)} {d:Nat->MV} {kv:Nat->List (aP×V)} (h:FS C H x dx fs d kv) (inj:∀i j,i<6->j<6->d i=d j->i=j) (j:Nat) (hj:j<6) (k':List (aP×V)):FS C (upd H (d j) (.dK k')) x dx fs d (λi=>if i=j then k' else kv i):=by
 show#[?_,λi hi=>?_]
 . rw[aR (jB h.ob (h.dc j hj) (by intro z; cases z))]; exact h.ob
 . by_cases e:i=j
   . subst e;rw[aF,JJ rfl]
   . rw[aR (λz=>e (inj i j hi hj z)),JI e];exact h.dc i hi
abbrev fG (v:V) (d:Nat->MV):List (Str×V):=cN "ways_in" ↥(d 5) (cN "names_in" ↥(d 4) (cN "rows_of" ↥(d 3) (cN "params_of" ↥(d 2) (cN "folded_of" ↥(d 1) (cN "number_of" ↥(d 0) (cN "last" v []))))))
def lk_number (v:V) (d:Nat->MV):(fG v d).lookup ("number_of":Str)=⇑↥(d 0):=by unfold fG;rw[cu,JI 0xA,cu,JI 0xA,cu,JI 0xA,cu,JI 0xA,cu,JI 0xA,cu,JJ rfl]
def Gp (v:V) (d:Nat->MV):(fG v d).lookup ("folded_of":Str)=⇑↥(d 1):=by unfold fG;rw[cu,JI 0xA,cu,JI 0xA,cu,JI 0xA,cu,JI 0xA,cu,JJ rfl]
def Dv (v:V) (d:Nat->MV):(fG v d).lookup ("params_of":Str)=⇑↥(d 2):=by unfold fG;rw[cu,JI 0xA,cu,JI 0xA,cu,JI 0xA,cu,JJ rfl]
def lk_rows (v:V) (d:Nat->MV):(fG v d).lookup ("rows_of":Str)=⇑↥(d 3):=by unfold fG;rw[cu,JI 0xA,cu,JI 0xA,cu,JJ rfl]
def lk_names (v:V) (d:Nat->MV):(fG v d).lookup ("names_in":Str)=⇑↥(d 4):=by unfold fG;rw[cu,JI 0xA,cu,JJ rfl]
def Bs (v:V) (d:Nat->MV):(fG v d).lookup ("ways_in":Str)=⇑↥(d 5):=by unfold fG;rw[cu,JJ rfl]
abbrev dd (d0 d1 d2 d3 d4 d5:MV):Nat->MV
 | 0=>d0
 | 1=>d1
 | 2=>d2
 | 3=>d3
 | 4=>d4
 | _=>d5
def Ho {d0 d1 d2 d3 d4 d5:MV} (h:[d0,d1,d2,d3,d4,d5].Nodup) (i j:Nat) (hi:i<6) (hj:j<6) (e:dd d0 d1 d2 d3 d4 d5 i=dd d0 d1 d2 d3 d4 d5 j):i=j:=by
 have g:∀k,k<6->[d0,d1,d2,d3,d4,d5][k]?=⇑(dd d0 d1 d2 d3 d4 d5 k):=λk hk=>by rcases k with _|_|_|_|_|_|k <;> first|rfl|lia
 exact(L8 hi h).mp ((g i hi)\((Jj some e)\(g j hj).symm))
def bV {a b:MV} {o:HO} (h:upd H a o b=none):b≠a/\H b=none:=by
 have hn:b≠a:=λz=>by rw[z,aF] at h; cases h
 rw[aR hn] at h;show#[hn,h]
def b7 {a b:MV} {o o':HO} (h:H b=⇑o) (hn:b≠a):upd H a o' b=⇑o:=by rw[aR hn]; exact h
def kK (f:Str) (v:V) (l:List (Str×V)) (k:Nat) (h:l.length<=k):(cN f v l).length<=k+1:=Jo (rO f v l) ∅
end Fl
namespace L2
open PySem
abbrev hl (H:Hp):Hp:=λb=>match H b with
 | some (.lst xs)=>⇑(.lst xs)
 | some (.tup xs)=>⇑(.tup xs)
 | _=>none
variable {H:Hp}
def sy :Same (hl H) H:=λb o h=>by
 unfold hl at h;split at h
 . rename_i e; rw[e]; exact h
 . rename_i e; rw[e]; exact h
 . cases h
def x5 {b:MV} {xs:List V} (h:H b=⇑(.lst xs)):hl H b=⇑(.lst xs):=by unfold hl; rw[h]
def F9 {b:MV} {xs:List V} (h:H b=⇑(.tup xs)):hl H b=⇑(.tup xs):=by unfold hl; rw[h]
def Same.hl {H H':Hp} (e:Same H H'):Same (hl H) (hl H'):=λb o h=>by have h1:=sy _ _ h;have h2:=e _ _ h1;unfold L2.hl at h ⊢;rw[h1] at h;rw[h2];exact h
def C9 {a:MV} {o:HO} (h:∀xs,H a≠⇑(.lst xs)/\H a≠⇑(.tup xs)) (ho:∀xs,o≠.lst xs/\o≠.tup xs):hl (upd H a o)=hl H:=by
 funext b;unfold hl upd;by_cases hb:b=a
 . subst hb;rw[JJ rfl];cases o with
   | lst xs=>exact absurd rfl (ho xs).1
   | tup xs=>exact absurd rfl (ho xs).2
   | _ =>
     cases e:H b with
     | none=>rfl
     | some u=>cases u with
       | lst xs=>exact absurd e (h xs).1
       | tup xs=>exact absurd e (h xs).2
       | _=>rfl
 . rw[JI hb]
def jp {a:MV} {kvs kvs':List (aP×V)} (h:H a=⇑(.dK kvs)):hl (upd H a (.dK kvs'))=hl H :=
 C9 (λxs=>#[(by rw[h]; intro z; cases z),(by rw[h]; intro z; cases z)]) λxs=>#[(by intro z; cases z),(by intro z; cases z)]
end L2
namespace K13
open PySem L2
def FoundN.hl {H:Hp} {l:MV} {ks:List Str} {i:Nat} (h:FoundN H l ks i):FoundN (L2.hl H) l ks i:=by
 let#[vs,h1,h2,h3]:=h;show#[vs,x5 h1,h2,λk v q=>?_];let#[o,d,z]:=h3 k v q;show#[o,d,?_];cases o with
 | none=>exact z
 | some l=>let#[p,z1,z2]:=z; show#[p,z1,F9 z2]
end K13
namespace F2
open PySem L2 Gx Fl
structure Fd where
 name:Str
 fo:V
 fa:Addr
 pa:Addr
 ra:Addr
 ps:List Str
 rs:List Rw
 ds:List K12.RowD
structure FnAt (K:W.Frag) (H:Hp) (f:Fd):Prop where
 fn:aJ K H f.fa [.str f.name,f.fo,↥f.pa,↥f.ra]
 pr:aJ K H f.pa (f.ps.map V.str)
 rw_:aJ K H f.ra (f.rs.map λw=>V.ref w.r)
 rk:∀w∈f.rs,ke K H w
 fu:K12.FunAt K H f.fa f.ps f.ds
 wf:K13.Wf (f.rs.map (·.k))
 len:f.rs.length<=100
def FnAt.mono {K:MW} {H H':Hp} {f:Fd} (e:Same H H') (h:FnAt K H f):FnAt K H' f :=
 #[e<*h.fn,e<*h.pr,e<*h.rw_,λw hw=>(h.rk w hw)*>e,h.fu*>e,h.wf,h.len]
abbrev toF (f:Fd):Fl.Fd:=#[f.name,f.fa,f.ra,f.rs]
def FnAt.old {K:MW} {H:Hp} {f:Fd} (h:FnAt K H f):Fl.FnAt K H (toF f):=#[#[4,h.fn],h.rw_,h.rk,#[4,h.fu],h.wf,h.len]
abbrev nms (f:Fd):List Str:=K12.onceL (K12.allOf f.ps f.ds)
abbrev kY (f:Fd):List Str:=f.rs.map (·.k)
abbrev kD (g:Nat->Fd->V) (fns:List Fd):List (aP×V):=fns.mapIdx λi f=>(Sum.inr f.name,g i f)
def DC (g:Nat->Fd->V) (fns:List Fd) (f:Fd):kD g (fns++[f])=kD g fns++[(Sum.inr f.name,g fns.length f)]:=by unfold kD;rw[List.mapIdx_append];simp
variable {fns:List Fd}
def Ip {g g':Nat->Fd->V} (h:∀i f,i<fns.length->g i f=g' i f):kD g fns=kD g' fns:=by unfold kD;refine List.ext_getElem 0xB λi h1 h2=>?_;simp only[List.getElem_mapIdx];rw[h i _ ↑h1]
def Eh (g:Nat->Fd->V) {s:Str} (h:s ∉ fns.map (·.name)):bf (kD g fns) (Sum.inr s:aP)=none:=by
 unfold bf;rw[Option.map_eq_none_iff,List.find?_eq_none];intro kv hkv z;unfold kD at hkv;let#[i,hi,e]:=List.mem_mapIdx.mp hkv;subst e;have z:(Sum.inr fns[i].name:aP)=Sum.inr s:=↑z
 exact h (JW.mpr #[fns[i],K2 hi,Sum.inr.inj z])
def wW {f:Fd} {i:Nat} (h:fns[i]?=⇑f) (nd:(fns.map (·.name)).Nodup):f.name ∉ (fns.take i).map (·.name):=by
 intro z;let#[g,hg,e]:=JW.mp z;let#[j,hj]:=K0 hg;have hji:j<i:=by
   have:=(JF.mp hj).1;rw[Jp] at this
   lia
 rw[LG hji] at hj;have h1:(fns.map (·.name))[i]?=⇑f.name:=by rw[JC,h]; rfl
 have h2:(fns.map (·.name))[j]?=⇑f.name:=by rw[JC,hj]; exact Jj some e
 have:=(L8 (JF.mp h2).1 nd).mp (h2\h1.symm)
 lia
def jE {g g':Nat->Fd->V} {f:Fd} {i:Nat} {v:V} (h:fns[i]?=⇑f) (nd:(fns.map (·.name)).Nodup) (hg:∀j f,j<i->g j f=g' j f) (hv:v=g' i f):b5 (kD g (fns.take i)) (Sum.inr f.name:aP) v=kD g' (fns.take (i+1)):=by
 have hi:i<fns.length:=(JF.mp h).1;have hl:(fns.take i).length=i:=by rw[Jp]; lia
 rw[yI _ (Eh g (wW h nd)),Jr,h];show _=kD g' (fns.take i++[f]);rw[DC,hl,<- hv,Ip (g:=g) (g':=g') λj f hj=>hg j f ∅]
def kD_at (g:Nat->Fd->V):∀{fns:List Fd} {i:Nat} {f:Fd},(fns.map (·.name)).Nodup->fns[i]?=⇑f->bf (kD g fns) (Sum.inr f.name:aP)=⇑(g i f):=by
 intro fns i f nd h;have hi:i<fns.length:=(JF.mp h).1;have key:∀k,i<k->k<=fns.length->bf (kD g (fns.take k)) (Sum.inr f.name:aP)=⇑(g i f):=by
   intro k
   induction k with
   | zero=>intro h0; exact absurd h0 (Js _)
   | succ k ih =>
     intro hk hk';obtain⟨f',hf'⟩:∃f',fns[k]?=⇑f':=#[fns[k],JA ∅]
     rw[<- jE (g:=g) (g':=g) hf' nd (λ_ _ _=>rfl) rfl,ky];by_cases e:i=k
     . subst e;rw[h] at hf';cases hf';rw[JJ rfl]
     . have hn:¬ (Sum.inr f.name:aP)=Sum.inr f'.name:=λz=>wW hf' nd (JW.mpr #[f,J9 (by rw[LG (show i<k by lia)]; exact h),Sum.inr.inj z]);rw[JI hn];exact ih ∅ ∅
 have:=key fns.length hi (JG _);rw[Jh] at this;exact this
structure FlowsAt (K:W.Frag) (C:Addr) (H:Hp) (x:Addr) (fns:List Fd):Prop where
 all:∀f∈fns,FnAt K H f
 nd:(fns.map (·.name)).Nodup
 ob:∃dx fz d kv,∃nl wl:Nat->Addr,fns[fns.length - 1]?=⇑fz/\FS C H x dx (fG (V.str fz.name) d) d kv/\kv 0=kD (λi _=>.int i) fns/\kv 1=kD (λ_ f=>f.fo) fns/\kv 2=kD (λ_ f=>↥f.pa) fns/\kv 3=kD (λ_ f=>↥f.ra) fns /\
   kv 4=kD (λi _=>↥(nl i)) fns/\kv 5=kD (λi _=>↥(wl i)) fns/\∀i f,fns[i]?=⇑f->H (nl i)=⇑(.lst ((nms f).map V.str))/\K13.FoundN H (wl i) (kY f) (kY f).length
def FlowsAt.mono {K:MW} {C:MV} {H H':Hp} {x:MV} {fns:List Fd} (e:Same H H') (h:FlowsAt K C H x fns):FlowsAt K C H' x fns:=by let#[dx,fz,d,kv,nl,wl,h0,h1,h2,h3,h4,h5,h6,h7,h8]:=h.ob;show#[λf hf=>(h.all f hf)*>e,h.nd,#[dx,fz,d,kv,nl,wl,h0,h1*>e,h2,h3,h4,h5,h6,h7,λi f hi=>#[e _ _ (h8 i f hi).1,(h8 i f hi).2.mono e]]]
end F2
namespace K41
open PySem L2 Gx Fl
structure RR where
 w:Rw
 d:K12.RowD
abbrev RRok (K:MW) (H:Hp) (x:RR):Prop:=x.w.r=x.d.r/\ke K H x.w/\K12.RowAt K H x.d
def at_i (i:Int):K12.Atom (.int i):=.inr #[i,rfl]
def t7 {p:V->Prop} {a:V} (h:p a):∀v∈[a],p v:=λv hv=>by rw[JK.mp hv]; exact h
abbrev rone (k:Str) (r:MV) (a:V):RR:=#[#[r,k,""],#[r,(0),(0),none,[a]]]
abbrev rnone (k:Str) (r:MV):RR:=#[#[r,k,""],#[r,(0),(0),none,[]]]
variable {H:Hp} {r:MV}
def ok_if {K:MW} {a:V} (h:aJ K H r [.str "if",a]) (ha:K12.Atom a):RRok K H (rone "if" r a) :=
 #[rfl,#[_,h,λz=>absurd z (by show ¬ (("if":Str)="call"); decide +kernel)],#[#[_,h,.ifs a],t7 ha,by show 1<=10; decide,λx hx=>by cases hx]]
def ok_back {K:MW} {a:V} (h:aJ K H r [.str "back",a]) (ha:K12.Atom a):RRok K H (rone "back" r a) :=
 #[rfl,#[_,h,λz=>absurd z (by show ¬ (("back":Str)="call"); decide +kernel)],#[#[_,h,.back a],t7 ha,by show 1<=10; decide,λx hx=>by cases hx]]
def ok_else {K:MW} (h:aJ K H r [.str "else"]):RRok K H (rnone "else" r) :=
 #[rfl,#[_,h,λz=>absurd z (by show ¬ (("else":Str)="call"); decide +kernel)],#[#[_,h,.els],(λv hv=>by cases hv),Jd _,λx hx=>by cases hx]]
def ok_end {K:MW} (h:aJ K H r [.str "end"]):RRok K H (rnone "end" r) :=
 #[rfl,#[_,h,λz=>absurd z (by show ¬ (("end":Str)="call"); decide +kernel)],#[#[_,h,.fin],(λv hv=>by cases hv),Jd _,λx hx=>by cases hx]]
def vD {ks os:List Str} {x:Str} (g:K13.Good ks os) (h1:¬ K13.isO x=true) (h2:¬ K13.isE x=true) (h3:¬ x="end"):∀n,K13.Good (ks++List.replicate n x) os
 | 0=>by rw[List.replicate_zero,Jq]; exact g
 | n+1=>by rw[List.replicate_succ',<- Jl]; exact(vD g h1 h2 h3 n).plain h1 h2 h3
abbrev lc (z:Int):Nat:=K12.lets.cps.toList.getD z.toNat 0
def xn:K12.lets.cps.toList.length=26:=by decide +kernel
def lc_at {z:Int} (h0:0<=z) (h1:z<26):bo K12.lets.cps.toList z=⇑(lc z):=by
 let#[j,rfl]:=JT h0;have hj:j<K12.lets.cps.toList.length:=by rw[xn]; lia
 refine bY ?_;unfold lc;rw[K3,JH,JA hj];rfl
def vP {z:Int} (h0:0<=z) (h1:z<26):lc z∈K12.lets.cps.toList:=by
 have hj:z.toNat<K12.lets.cps.toList.length:=by rw[xn]; lia
 unfold lc;rw[JH,JA hj];exact K2 hj
def G8 {x y:Int} (x0:0<=x) (x1:x<26) (y0:0<=y) (y1:y<26) (h:lc x=lc y):x=y:=by
 have key:∀i<26,∀j<26,K12.lets.cps.toList.getD i 0=K12.lets.cps.toList.getD j 0->i=j:=by decide +kernel
 have:=key x.toNat ∅ y.toNat ∅ h
 lia
def yX {l:List Nat} (h:∀c∈l,c∈K12.lets.cps.toList):PyData.strOk (tx l)=true:=by
 have hz:=K12.lets_ok;unfold PyData.strOk at hz ⊢;rw[Array.all_eq_true'] at hz ⊢;intro x hx;have hx:x∈l:=by simpa [tx] using hx
 exact hz x (by simpa using h x hx)
abbrev tkV:List V:=[V.str "fn",V.str "in",V.str "new",V.str "get",V.str "put",V.str "call",V.str "out",V.str "if",V.str "while",V.str "else",V.str "end",V.str "back"]
end K41
namespace L2
open PySem PySem.Spec PyProof.Rows
section
variable {g:TG} {tif:TT} {te:TE} {js:List (JM Nat)} {σ:St} {H:Hp} {Q:VK}
def F5 {K:MW} {a:MV} {xs:List V} {p:MV} (hn:xs.length<=1000000) (Pv:Nat->List V->Hp->Prop) (h0:Pv 0 [] (upd H p (.lst [])))
   (hl:∀i acc H2,i<=xs.length->Pv i acc H2->H2 p=⇑(.lst acc)/\acc.length<=i/\aH K H2 a xs)
   (hs:∀i x acc H2 b,xs[i]?=⇑x->Pv i acc H2->H2 b=none->kA g tif te (cC js σ) p acc (Pv (i+1)) ↥b (upd H2 b (.tup [.int i,x]))) (hd:∀acc H2,Pv xs.length acc H2->Q ↥p H2) :
   i' (kS K a) g tif te js σ Q p H:=by
 show#[λi m acc H=>m=xs.length - i/\i<=xs.length/\Pv i acc H,#[xs.length,by simp,Jd _,h0],?_];rintro i m acc H2 ⟨rfl,hi,q⟩;let#[q1,q2,q3]:=hl i acc H2 hi q;show#[q1,?_];by_cases hlt:i<xs.length
 . refine .inr #[#[xs,xs[i],q3,by simp [hlt]],?_,Pv (i+1),λacc' H' p'=>#[xs.length - (i+1),∅,rfl,hlt,p'],λx H' y=>?_]
   . have:(1000000:Nat)<sizeLine:=by decide
     lia
   . let#[b,rfl,hb,y]:=y;rw[y xs xs[i] q3 (by simp [hlt])];exact hs i xs[i] acc H2 b (by simp [hlt]) q hb
 . have e:i=xs.length:=by lia
   subst e;exact .inl #[#[xs,q3,rfl],hd acc H2 q]
end
inductive WVar (i:Nat) (σ:St) (H:Hp) (Q:VK):Prop
 | mk (v:V) (h:σ[i]?=⇑⇑v) (q:Q v H):WVar i σ H Q
abbrev pE (i:Nat):TE:=λσ H Q=>WVar i σ H Q
variable {X:Cx}
def aB (i:Nat) {x:Str} {pos:Pos} (hN:X.N[i]?=⇑x:=by rfl) (hv:kt X.env.scope x:=by first|exact Or.inl rfl|exact Or.inr 0x0|exact Or.inr (Or.inr rfl)) (hd:(x==("__debug__":Str))=false:=by decide)
   (hcd:(x==("__classdict__":Str))=false:=by decide):PE X (.Name x pos) (pE i):=λpins s σ H Q I h=>pv i hN hv hd hcd pins s σ H Q I (by let#[v,e,q]:=h; show#[v,e,q])
inductive WIxL (K:W.Frag) (x y:V) (H:Hp) (Q:VK):Prop
 | mk (p:Addr) (xs:List V) (i:Int) (v:V) (h1:x=↥p) (h2:y=.int i) (h3:aH K H p xs) (h4:bo xs i=⇑v) (q:Q v H):WIxL K x y H Q
inductive WIxT (K:W.Frag) (x y:V) (H:Hp) (Q:VK):Prop
 | mk (p:Addr) (xs:List V) (i:Int) (v:V) (h1:x=↥p) (h2:y=.int i) (h3:aJ K H p xs) (h4:bo xs i=⇑v) (q:Q v H):WIxT K x y H Q
abbrev bC (K:MW):R2:=λx y H Q=>WIxL K x y H Q
abbrev am (K:MW):R2:=λx y H Q=>WIxT K x y H Q
def aN.imp {r r':R2} (h:aN X r) (f:∀x y H Q,r' x y H Q->r x y H Q):aN X r':=λa b pins s σ H x y v u Q I r1 r2 q z=>h a b pins s σ H x y v u Q I r1 r2 (f x y H Q q) z
def bc.imp {g:MT->MT->Sem MT} {r r':R2} (h:bc X g r) (f:∀x y H Q,r' x y H Q->r x y H Q):bc X g r':=λpins s σ H x y v u Q I r1 r2 q=>h pins s σ H x y v u Q I r1 r2 (f x y H Q q)
def ay.imp {g:MT} {r r':List V->Hp->VK->Prop} (h:ay X g r) (f:∀xs H Q,r' xs H Q->r xs H Q):ay X g r':=λpins s σ H xs us Q I r1 q=>h pins s σ H xs us Q I r1 (f xs H Q q)
def bF :aN X (bC X.K):=jN.imp λx y H Q h=>by let#[p,xs,i,v,h1,h2,h3,h4,q]:=h; show#[p,xs,i,v,h1,h2,h3,h4,q]
def ap :aN X (am X.K):=iz.imp λx y H Q h=>by let#[p,xs,i,v,h1,h2,h3,h4,q]:=h; show#[p,xs,i,v,h1,h2,h3,h4,q]
inductive WI (C:Int->Int->Prop) (g:Int->Int->V) (x y:V) (H:Hp) (Q:VK):Prop
 | mk (i j:Int) (h1:x=.int i) (h2:y=.int j) (h3:C i j) (q:Q (g i j) H):WI C g x y H Q
inductive WI0 (g:Int->Int->V) (x y:V) (H:Hp) (Q:VK):Prop
 | mk (i j:Int) (h1:x=.int i) (h2:y=.int j) (q:Q (g i j) H):WI0 g x y H Q
abbrev cI (C:Int->Int->Prop) (g:Int->Int->V):R2:=λx y H Q=>WI C g x y H Q
abbrev cI0 (g:Int->Int->V):R2:=λx y H Q=>WI0 g x y H Q
def aZ {f:MT->MT->Sem MT} {C:Int->Int->Prop} {g:Int->Int->V} (h:bc X f (rI C g)):bc X f (cI C g):=h.imp λx y H Q h=>by let#[i,j,h1,h2,h3,q]:=h; show#[i,j,h1,h2,h3,q]
def aX {f:MT->MT->Sem MT} {g:Int->Int->V} (h:bc X f (iI g)):bc X f (cI0 g):=h.imp λx y H Q h=>by let#[i,j,h1,h2,q]:=h; show#[i,j,h1,h2,q]
inductive WLen (K:W.Frag) (xs:List V) (H:Hp) (Q:VK):Prop
 | mk (p:Addr) (ys:List V) (h1:xs=[↥p]) (h2:aH K H p ys\/aJ K H p ys) (q:Q (.int ys.length) H):WLen K xs H Q
abbrev bW (K:MW):List V->Hp->VK->Prop:=λxs H Q=>WLen K xs H Q
def bb :ay X (.builtin "len") (bW X.K):=rL.imp λxs H Q h=>by let#[p,ys,h1,h2,q]:=h; show#[p,ys,h1,h2,q]
inductive WApp (x:V) (vs:List V) (H:Hp) (Q:VK):Prop
 | mk (l:Addr) (xs:List V) (y:V) (h1:x=↥l) (h2:vs=[y]) (h3:H l=⇑(.lst xs)) (h4:xs.length<sizeLine) (q:Q .non (upd H l (.lst (xs++[y])))):WApp x vs H Q
abbrev Ic:V->List V->Hp->VK->Prop:=λx vs H Q=>WApp x vs H Q
def cf :lj X "list.append" Ic:=λpins s σ H x xs v us Q I r1 r2 q=>ja pins s σ H x xs v us Q I r1 r2 (by let#[l,xs,y,h1,h2,h3,h4,q]:=q; show#[l,xs,y,h1,h2,h3,h4,q])
inductive WBl (x:V) (H:Hp) (Q:Bool->Hp->Prop):Prop
 | mk (k:Bool) (h:x=.bl k) (q:Q k H):WBl x H Q
abbrev tN (t:TE):TT:=λσ H Q=>t σ H λx H'=>WBl x H' Q
section
variable {X:Cx} {a b:Expr} {ta tb:TE} {pos:Pos}
def aq {op:CmpOp} {r:R2} (ho:bc X (compareOp op) r) (ha:PE X a ta) (hb:PE X b tb) (hm:behindInMarks op b=false):PT X (.Compare a [op] [b] pos) (tN (jQ r ta tb)):=by
 intro pins s σ H Q I h;refine Ld (aQ (ha pins s σ H _ I h) λv s1 ⟨x,H1,I1,r1,q1⟩=>aQ (hb pins s1 σ H1 _ I1 q1) λu s2 ⟨y,H2,I2,r2,q2⟩ =>
   aQ (ho pins s2 σ H2 x y v u _ I2 r1 r2 q2) λc s3 z153_=>z153_.e λz H3 I3 r3 w=>?_) hm
 let#[k,e,q3]:=w;subst e;cases r3;exact KS #[H3,I3,q3]
def fJ {e:Expr} {t:TE} (h:PE X e t) (he:∀whole,isTrue e X.env whole=(do let v <- whole; standAt e.pos; holding [v] (truthy v)):=by intro _; rfl):PT X e (tN t):=by intro pins s σ H Q I hw;refine isTrue_plain (aQ (h pins s σ H _ I hw) λv s1 z154_=>?_) (he _);let#[x,H1,I1,r1,q1]:=z154_;let#[d,rfl,q]:=q1;cases r1;exact KS #[H1,I1,q]
end
abbrev CA (t u:TS):TS:=λD σ H=>∃M:St->Hp->Prop,t { D with nx:=M } σ H/\∀σ' H',M σ' H'->u D σ' H'
def fX {X:Cx} {st:Stmt} {rest:List Stmt} {t u:TS} (h1:PS X st t) (h2:dn X rest u):dn X (st::rest) (CA t u):=DX h1 h2
end L2
namespace Bg
open PySem L2 Gx K41
def RRok.mono {K:MW} {H H':Hp} {x:RR} (h:RRok K H x) (e:Same H H'):RRok K H' x:=#[h.1,h.2.1*>e,h.2.2*>e]
def fn_mk2 {K:MW} {H:Hp} {nk:Str} {fa tr qC:MV} {fo:V} {ps:List Str} (rr:List RR) (h1:aJ K H fa [.str nk,fo,↥qC,↥tr]) (h2:aJ K H tr (rr.map λx=>V.ref x.w.r)) (h3:∀x∈rr,RRok K H x) (h4:aJ K H qC (ps.map V.str)) (h5:∀s∈ps,K12.Nm s) (h6:ps.length<=100) (h7:rr.length<=100) (wf:K13.Wf (rr.map λx=>x.w.k)) :
   F2.FnAt K H #[nk,fo,fa,qC,tr,ps,rr.map (·.w),rr.map (·.d)]:=by
 show#[h1,h4,by show aJ K H tr ((rr.map (·.w)).map λw=>V.ref w.r); rw[Jm]; exact h2,λw hw=>?_,#[#[16,h1,h4,?_],λd hd=>?_,h5,h6,by show(rr.map (·.d)).length<=100; rw[J7]; exact h7],by show K13.Wf ((rr.map (·.w)).map (·.k)); rw[Jm]; exact wf,by show(rr.map (·.w)).length<=100; rw[J7]; exact h7]
 . let#[x,hx,rfl]:=JW.mp hw;exact(h3 x hx).2.1
 . show aJ K H tr ((rr.map (·.d)).map λd=>V.ref d.r);rw[Jm];have:(rr.map λx=>V.ref x.w.r)=rr.map ((λd=>V.ref d.r) ∘ (·.d)):=KU λx hx=>by show V.ref x.w.r=V.ref x.d.r;rw[(h3 x hx).1]
   rw[<- this];exact h2
 . let#[x,hx,rfl]:=JW.mp hd;exact(h3 x hx).2.2
abbrev rcopyV (r:MV) (nm:Str) (i:Int):RR:=#[#[r,"copy",""],#[r,(0),(0),⇑nm,[.int i]]]
def ok_copyV {K:MW} {H:Hp} {r:MV} {nm:Str} {i:Int} (h:aJ K H r [.str "copy",.str nm,.int i]) (hn:K12.Nm nm):RRok K H (rcopyV r nm i) :=
 #[rfl,#[_,h,λz=>absurd z (by show ¬ (("copy":Str)="call"); decide +kernel)],#[#[_,h,.copy nm _],t7 (at_i i),by show 1<=10; decide,λx hx=>by cases hx; exact hn]]
end Bg
namespace Bt
open PySem L2 Gx
abbrev pb (n c:Nat):List Nat:=(List.range c).map λi=>if n / 2 ^ (c - 1 - i)%2=1 then 49 else 48
def gk (n c:Nat):(pb n c).length=c:=by unfold pb; rw[J7,JY]
def IG {n c x:Nat} (h:x∈pb n c):x=48\/x=49:=by
 unfold pb at h;let#[i,_,rfl]:=JW.mp h;split
 . exact .inr rfl
 . exact .inl rfl
abbrev nb (n:Nat):List Nat:=if n<8 then 48::pb n 3 else 49::pb (n%8) 3++nb (n / 8)
termination_by n
decreasing_by lia
def iK {n:Nat} (h:n<8):nb n=48::pb n 3:=by rw[nb,JJ h]
def lP {n:Nat} (h:¬ n<8):nb n=49::pb (n%8) 3++nb (n / 8):=by rw[nb,JI h]
def jX:∀(k n:Nat),n<8 ^ (k+1)->(nb n).length<=4 * (k+1)
 | 0,n,h=>by rw[iK ↑h,JX,gk];exact JG _
 | k+1,n,h=>by
   by_cases c:n<8
   . rw[iK c,JX,gk]; lia
   . have h':n / 8<8 ^ (k+1):=by
       have:8 ^ (k+1+1)=8 * 8 ^ (k+1):=by rw[LJ]; lia
       lia
     have ih:=jX k (n / 8) h';rw[lP c,JE,JX,gk]
     lia
def ED (n k:Nat):Builtin.bitAnd ((n:Int) / 2 ^ ((k:Int)).toNat) 1=((n / 2 ^ k%2:Nat):Int):=by
 rw[PyProof.Rows.bitAnd_m1,K3];have:(2:Int) ^ k=((2 ^ k:Nat):Int):=by simp
 rw[this]
 lia
def Bl (n:Nat):Builtin.bitAnd (n:Int) 7=((n%8:Nat):Int):=by
 rw[PyProof.Rows.bitAnd_m3]
 lia
def xj (l:List Nat):("1":Str)++tx l=tx (49::l):=fY [49] l
def vJ:("0":Str)=tx [48]:=rfl
def vK (f:Nat->Nat):∀l:List Nat,(l.map λi=>[f i]).flatten=l.map f
 | []=>rfl
 | x::l=>by rw[Jv,K8,vK f l]; rfl
def vT (f:Nat->Nat):∀l:List Nat,(((l.map λi=>[f i]).map tx).map (·.length)).sum=l.length
 | []=>rfl
 | x::l=>by rw[Jv,Jv,Jv,List.sum_cons,vT f l,dO,JX]; simp; lia
inductive BTr where
 | box (k:Nat):BTr
 | num (v:Nat):BTr
 | op (i:Nat) (l r:BTr):BTr
abbrev pH:List Nat:=[43,45,42,47,60,61,38,124,94]
abbrev eQ (i:Nat):Str:=tx [pH.getD i 0]
abbrev rb:BTr->List Nat
 | .box k=>48::nb k
 | .num v=>49::48::nb v
 | .op i l r=>49::49::pb i 4++rb l++rb r
abbrev lv:BTr->Nat
 | .box _=>1
 | .num _=>1
 | .op _ l r=>lv l+lv r
abbrev cL:BTr->Nat
 | .box _=>0
 | .num _=>0
 | .op _ l r=>max (cL l) (cL r)+1
def k8:∀t:BTr,cL t<lv t
 | .box _=>Lj
 | .num _=>Lj
 | .op _ l r=>by
   have h1:=k8 l;have h2:=k8 r;show max (cL l) (cL r)+1<lv l+lv r
   lia
abbrev mw:BTr->Prop
 | .box k=>k<8 ^ 16
 | .num v=>v<8 ^ 16
 | .op _ l r=>mw l/\mw r
def jn:∀{t:BTr},mw t->(rb t).length+6<=72 * lv t
 | .box k,h=>by have:=jX 15 k h;show(48::nb k).length+6<=72 * 1;rw[JX]; lia
 | .num k,h=>by have:=jX 15 k h;show(49::48::nb k).length+6<=72 * 1;rw[JX,JX]; lia
 | .op i l r,h=>by
   have h1:=jn h.1;have h2:=jn h.2;show(49::49::pb i 4++rb l++rb r).length+6<=72 * (lv l+lv r);rw[JE,JE,JX,JX,gk]
   lia
def xz:∀i<9,¬ eQ i="box"/\¬ eQ i="num":=by decide +kernel
abbrev sgTup:List V:=[V.str "+",V.str "-",V.str "*",V.str "/",V.str "<",V.str "=",V.str "&",V.str "|",V.str "^"]
def BK:∀i<9,∃z,sgTup[i]?=⇑z/\fE z (V.str (eQ i))=true:=by
 intro i hi;have:∀i<9,sgTup[i]?=⇑(V.str (eQ i)):=by decide +kernel
 show#[_,this i hi,?_];have:∀i<9,fE (V.str (eQ i)) (V.str (eQ i))=true:=by decide +kernel
 exact this i hi
def Di:∀i<9,∀m z,m<i->sgTup[m]?=⇑z->fE z (V.str (eQ i))=false:=by
 have key:∀i<9,∀m<i,(sgTup[m]?.map λz=>fE z (V.str (eQ i)))=⇑false:=by decide +kernel
 intro i hi m z hm hz;have:=key i hi m hm;rw[hz] at this;exact Option.some.inj this
def wO:∀i<9,bo ("+-*/<=&|^":Str).cps.toList (i:Nat)=⇑(pH.getD i 0):=by decide +kernel
def C' (l:List Nat):("0":Str)++tx l=tx (48::l):=fY [48] l
def Cr (l:List Nat):("10":Str)++tx l=tx (49::48::l):=fY [49,48] l
def rT (l:List Nat):("11":Str)++tx l=tx (49::49::l):=fY [49,49] l
def jT (a b:List Nat) (h:a.length+b.length<1000000):(tx a).length+(tx b).length<=sizeLine:=by rw[dO,dO]; exact bj h
def ej:(8:Nat) ^ 16=281474976710656:=by decide
end Bt
namespace Pk
open PySem L2 Gx Bt Bg
variable {xs:List V} {i:Nat} {x v:V}
section
variable {K:MW} {H H':Hp}
def bS:∀{ds:List PyData} {xs:List V},DatAll K H ds xs->xs.length=ds.length
 | [],xs,h=>by unfold DatAll at h; rw[h]; rfl
 | d::ds,xs,h=>by unfold DatAll at h;let#[x,r,rfl,_,h2]:=h;rw[JX,JX,bS h2]
def jF:∀{ds:List PyData} {xs:List V} {i:Nat} {d:PyData},DatAll K H ds xs->ds[i]?=⇑d->∃x,xs[i]?=⇑x/\DatV K H d x
 | [],xs,i,d,h,e=>by cases i <;> cases e
 | d'::ds,xs,i,d,h,e=>by
   unfold DatAll at h;let#[x,r,rfl,h1,h2]:=h;cases i with
   | zero=>cases e; show#[x,rfl,h1]
   | succ i =>
     let#[y,e2,hy]:=jF (i:=i) h2 ↑e;show#[y,by simpa using e2,hy]
def sM {ds:List PyData} (h:DatAll K H ds xs) (e:xs[i]?=⇑x):∃d,ds[i]?=⇑d/\DatV K H d x:=by
 have hi:i<ds.length:=by rw[<- bS h]; exact(JF.mp e).1
 let#[y,e2,hy]:=jF h (JA hi);rw[e] at e2;cases e2;show#[_,JA hi,hy]
def dZ:∀{ds:List PyData} {xs:List V} {d:PyData} {x:V},DatAll K H ds xs->DatV K H d x->DatAll K H (ds++[d]) (xs++[x])
 | [],xs,d,x,h,hx=>by unfold DatAll at h; subst h; exact ck hx bK
 | d'::ds,xs,d,x,h,hx=>by unfold DatAll at h;let#[y,r,rfl,h1,h2]:=h;exact ck h1 (dZ h2 hx)
def lW:∀{ds:List PyData} {xs:List V},xs.length=ds.length->(∀(i:Nat) d x,ds[i]?=⇑d->xs[i]?=⇑x->DatV K H d x)->DatAll K H ds xs
 | [],[],_,_=>bK
 | d::ds,x::xs,e,h=>ck (h 0 d x rfl rfl) (lW ↑e λi d' x' h1 h2=>h (i+1) d' x' ↑h1 ↑h2)
 | [],_::_,e,_=>by cases e
 | _::_,[],e,_=>by cases e
def gw {α:Type} {f:α->PyData} {l:List α} (h:DatAll K H (l.map f) xs) (e:xs[i]?=⇑x):∃a,l[i]?=⇑a/\DatV K H (f a) x:=by
 let#[d,hd,hx]:=sM h e;rw[JC] at hd;cases ha:l[i]? with
 | none=>rw[ha] at hd; cases hd
 | some a=>rw[ha] at hd; cases hd; show#[a,rfl,hx]
def eK {α:Type} {f:α->PyData} {l:List α} {a:α} (h:DatAll K H (l.map f) xs) (e:l[i]?=⇑a):∃x,xs[i]?=⇑x/\DatV K H (f a) x:=jF h (by rw[JC,e]; rfl)
def qz {α:Type} {f:α->PyData} {l:List α} {a:α} (h:DatAll K H ((l.take i).map f) xs) (e:l[i]?=⇑a) (hx:DatV K H (f a) x):DatAll K H ((l.take (i+1)).map f) (xs++[x]):=by rw[Jr,e,JB];exact dZ h hx
def cX {ds:List PyData} (h:DatV K H (.list ds) v):∃a xs,v=↥a/\aH K H a xs/\DatAll K H ds xs:=by unfold DatV at h; exact h
def gq {ds:List PyData} (h:DatV K H (.tuple ds) v):∃a xs,v=↥a/\aJ K H a xs/\DatAll K H ds xs:=by unfold DatV at h; exact h
def dat2 {d e:PyData} (h:DatAll K H [d,e] xs):∃x y,xs=[x,y]/\DatV K H d x/\DatV K H e y:=by unfold DatAll at h;let#[x,r,rfl,h1,h2]:=h;unfold DatAll at h2;let#[y,r,rfl,h2,h3]:=h2;unfold DatAll at h3;subst h3;show#[x,y,rfl,h1,h2]
def rB {d e f:PyData} (h:DatAll K H [d,e,f] xs):∃x y z,xs=[x,y,z]/\DatV K H d x/\DatV K H e y/\DatV K H f z:=by unfold DatAll at h;let#[x,r,rfl,h1,h2]:=h;let#[y,z,rfl,h3,h4]:=dat2 h2;show#[x,y,z,rfl,h1,h3,h4]
def ft {s:Str} (h:DatV K H (.str s) v):v=.str s:=by unfold DatV at h; exact h
def g6 {s:Int} (h:DatV K H (.int s) v):v=.int s:=by unfold DatV at h; exact h
def tR (h:DatV K H .none v):v=.non:=by unfold DatV at h; exact h
def dE {d e:PyData} (h:DatV K H (.tuple [d,e]) v):∃a x y,v=↥a/\aJ K H a [x,y]/\DatV K H d x/\DatV K H e y:=by let#[a,xs,rfl,h1,h2]:=gq h;let#[x,y,rfl,h3,h4]:=dat2 h2;show#[a,x,y,rfl,h1,h3,h4]
def cQ {d e:PyData} {a:MV} {y:V}(h:aJ K H a [x,y]) (h1:DatV K H d x) (h2:DatV K H e y):DatV K H (.tuple [d,e]) ↥a:=gP h (ck h1 (ck h2 bK))
mutual
noncomputable def bz:PyData->Bool
 | .tuple ds=>cD ds
 | .list _=>false
 | .dict _=>false
 | _=>true
noncomputable def cD:List PyData->Bool
 | []=>true
 | d::ds=>bz d&&cD ds
end
abbrev iO (H:Hp) (z:MV):Prop:=H z=none\/∃ys,H z=⇑(.lst ys)
def iO.lst {z:MV} {ys:List V} (h:H z=⇑(.lst ys)):iO H z:=.inr #[ys,h]
variable {z:MV}
def mq {a:MV}(h:aJ K H a xs) (hz:iO H z):aJ K (ers z H) a xs:=by
 have key:∀o:HO,H a=⇑o->(∀ys,o≠.lst ys)->a≠z:=λo ho hn e=>by
   subst e;rcases hz with hz|⟨ys,hz⟩
   . rw[ho] at hz; cases hz
   . rw[ho] at hz; exact hn ys (Option.some.inj hz)
 rcases h with(h|⟨o,h⟩)|h
 . exact .inl (.inl (by rw[aU (key _ h (by intro ys z; cases z))]; exact h))
 . exact .inl (.inr #[o,by rw[aU (key _ h (by intro ys z; cases z))]; exact h])
 . exact .inr h
mutual
theorem DatV.ersT {z:MV} (hz:iO H z):∀(d:PyData) (v:V),bz d=true->DatV K H d v->DatV K (ers z H) d v
 | .none,v,t,h=>by unfold DatV at h ⊢; exact h
 | .bool b,v,t,h=>by unfold DatV at h ⊢; exact h
 | .int i,v,t,h=>by unfold DatV at h ⊢; exact h
 | .str x,v,t,h=>by unfold DatV at h ⊢; exact h
 | .list ds,v,t,h=>by unfold bz at t; cases t
 | .tuple ds,v,t,h=>by unfold DatV at h ⊢;unfold bz at t;let#[a,xs,rfl,hq,hd]:=h;show#[a,xs,rfl,mq hq hz,DatAll.ersT hz ds xs t hd]
 | .dict _,v,t,h=>by unfold bz at t; cases t
theorem DatAll.ersT {z:MV} (hz:iO H z):∀(ds:List PyData) (xs:List V),cD ds=true->DatAll K H ds xs->DatAll K (ers z H) ds xs
 | [],xs,t,h=>by unfold DatAll at h ⊢; exact h
 | d::ds,xs,t,h=>by unfold DatAll at h ⊢;unfold cD at t;rw[Jf] at t;let#[x,r,rfl,hd,hds]:=h;show#[x,r,rfl,DatV.ersT hz d x t.1 hd,DatAll.ersT hz ds r t.2 hds]
end
def E7 {a:MV}(h:H a=⇑(.lst xs)) (hz:a≠z):aH K (ers z H) a xs:=aH.of (by rw[aU hz]; exact h)
def gB (e:Same H H') (h:H z=none):Same H (ers z H'):=λb o hb=>by rw[aU (aY hb h)]; exact e _ _ hb
def nX {o:HO}:Same (ers z H) (upd H z o):=by rw[<- dH (o:=o)]; exact bT
end
abbrev db:BTr->PyData
 | .box k=>.tuple [.str "box",.int k]
 | .num k=>.tuple [.str "num",.int k]
 | .op i l r=>.tuple [.str (eQ i),db l,db r]
abbrev bE:JM BTr->PyData
 | none=>.none
 | some t=>db t
abbrev tok:BTr->Prop
 | .box k=>k<8 ^ 16
 | .num k=>k<8 ^ 16
 | .op i l r=>i<9/\tok l/\tok r
abbrev cS:JM BTr->Prop
 | none=>True
 | some t=>tok t/\lv t<=8
def t5:∀t:BTr,bz (db t)=true
 | .box k=>by unfold db bz cD cD cD; unfold bz; rfl
 | .num k=>by unfold db bz cD cD cD; unfold bz; rfl
 | .op i l r=>by unfold db bz cD cD cD; rw[t5 l,t5 r]; unfold cD bz; rfl
def pU:∀o:JM BTr,bz (bE o)=true
 | none=>by unfold bE bz; rfl
 | some t=>t5 t
def kT:∀{t:BTr},tok t->mw t
 | .box k,h=>h
 | .num k,h=>h
 | .op i l r,h=>#[kT h.2.1,kT h.2.2]
def Dh:∀i<9,PyData.strOk (eQ i)=true:=by decide +kernel
def qv:∀{t:BTr},tok t->ag (cL t+1) (db t)
 | .box k,h=>ag.tuple (n:=0) λd hd=>by
   rcases JS.mp hd with e|hd
   . rw[e]; exact .str 0xA
   . rw[JK.mp hd]; exact .int _
 | .num k,h=>ag.tuple (n:=0) λd hd=>by
   rcases JS.mp hd with e|hd
   . rw[e]; exact .str 0xA
   . rw[JK.mp hd]; exact .int _
 | .op i l r,h=>ag.tuple (n:=max (cL l) (cL r)+1) λd hd=>by
   rcases JS.mp hd with e|hd
   . rw[e]; exact .str (Dh i h.1)
   . rcases JS.mp hd with e|hd
     . rw[e]; exact(qv h.2.1).mono ∅
     . rw[JK.mp hd]; exact(qv h.2.2).mono ∅
def je {o:JM BTr} (h:cS o):ag 8 (bE o):=by
 cases o with
 | none=>exact .none
 | some t=>exact(qv h.1).mono (by have:=k8 t; have:=h.2; lia)
abbrev ob:JM BTr->List Nat
 | none=>[48,48]
 | some tr=>49::rb tr
def Db {o:JM BTr} (h:cS o):(ob o).length<=600:=by
 cases o with
 | none=>show 2<=600; decide
 | some t =>
   have:=jn (kT h.1);have:=h.2;show(49::rb t).length<=600;rw[JX]
   lia
def Cj {K:MW} {H:Hp} {o:JM BTr} (h:DatV K H (bE o) v):v=.non <-> o=none:=by
 cases o with
 | none=>show#[λ_=>rfl,λ_=>tR h]
 | some t =>
   show#[λe=>?_,λe=>by cases e];subst e;cases t <;> (let#[a,xs,h1,_]:=gq h; cases h1)
abbrev lk (ah:List (JM BTr)) (o:JM BTr) (i:Nat):Bool:=match ah[i]? with
 | some a=>PyData.eqv (bE a) (bE o)
 | none=>false
abbrev gX (ah pl:List (JM BTr)) (i:Nat):List Nat:=if lk ah (pl.getD i none) i=true then [48,49] else ob (pl.getD i none)
abbrev i6 (ah pl:List (JM BTr)) (n:Nat):List (List Nat):=(List.range n).map (gX ah pl)
abbrev vb (ah pl:List (JM BTr)):List Nat:=(i6 ah pl pl.length).flatten
def wY (ah pl:List (JM BTr)) (n:Nat):i6 ah pl (n+1)=i6 ah pl n++[gX ah pl n]:=by unfold i6; rw[Jy,JB]; rfl
def BV {ah pl:List (JM BTr)} (h:∀o∈pl,cS o) (i:Nat):(gX ah pl i).length<=600:=by
 unfold gX;split
 . show 2<=600; decide
 . refine Db ?_;rw[JH];cases e:pl[i]? with
   | none=>exact True.intro
   | some o=>exact h o (J9 e)
def GX {l:List (List Nat)} {c:Nat} (h:∀x∈l,x.length<=c):(l.map (·.length)).sum<=l.length * c:=by
 induction l with
 | nil=>simp
 | cons x l ih =>
   have h1:=h x Je;have h2:=ih λy hy=>h y (Jc _ hy);rw[Jv,List.sum_cons,JX,Nat.succ_mul]
   lia
def Ha (l:List (List Nat)):((l.map tx).map (·.length)).sum=(l.map (·.length)).sum:=by have e:(l.map ((λx:Str=>x.length) ∘ tx))=l.map (·.length):=KU λx _=>dO x;rw[Jm,e]
def ik {l:List (List Nat)} {c:Nat} (h:∀x∈l,x.length<=c):l.flatten.length<=l.length * c:=by rw[Lm];exact GX h
def GT {ah pl:List (JM BTr)} (h:∀o∈pl,cS o) (n:Nat):∀x∈i6 ah pl n,x.length<=600:=λx hx=>by let#[i,_,rfl]:=JW.mp hx;exact BV h i
def vQ (ah pl:List (JM BTr)) (n:Nat):(i6 ah pl n).length=n:=by unfold i6; rw[J7,JY]
def qd {ah pl:List (JM BTr)} (h:∀o∈pl,cS o):(vb ah pl).length<=pl.length * 600:=by have:=ik (GT (ah:=ah) h pl.length);rw[vQ] at this;exact this
def uR {k:Nat}:fV xs ⇑(k:Int) ⇑((k:Int)+1)=(xs[k]?).toList:=by
 have e:((k:Int)+1)=((k+1:Nat):Int):=by lia
 rw[e];unfold fV;rw[HT.sIx_nat,HT.sIx_nat];by_cases h:k<xs.length
 . rw[L6 ∅,L6 ∅,JA h,LQ,<- List.getElem_cons_drop (h:=h)];rfl
 . rw[L7 ∅,Jz ∅];simp
end Pk
namespace Pk
open PySem L2 Gx Bt Bg K41
abbrev nq:List Int:=[10007,10009,10037,10039,10061,10067,10069,10079]
abbrev mW (j:Int):Int:=nq.getD (j%8).toNat 1
def By (j:Int):bo (nq.map V.int) (j%8)=⇑(V.int (mW j)):=by
 have b:=cG j 8 #[];exact tO b.1 (by show j%8<8; exact b.2) |>.trans (by
   unfold mW;have:(j%8).toNat<nq.length:=by show(j%8).toNat<8; lia
   rw[JH,JH,JA this];rfl)
def C6 (j:Int):0<mW j:=by
 have b:=cG j 8 #[];have key:∀i<8,0<nq.getD i 1:=by decide
 exact key _ ∅
abbrev bM (c j m:Int):Int:=(c * 48271+7919 * j)%mW j%m
def fM (c j m:Int) (h:0<m):0<=bM c j m/\bM c j m<m:=cG _ m h
abbrev fR (b:Int):Nat:=(1+bM b 8 8).toNat
def qq (b:Int):1<=fR b/\fR b<=8/\(fR b:Int)=1+bM b 8 8:=by
 have h:=fM b 8 8 #[];unfold fR
 lia
abbrev wd (b:Int):List Nat:=(List.range (fR b)).map λj:Nat=>lc (bM b j 26)
abbrev iH (b:Int):Nat:=(bM b 9 (1+bM b 8 8)).toNat
def yC (b:Int):iH b<fR b/\(iH b:Int)=bM b 9 (1+bM b 8 8):=by
 have h1:=qq b;have h2:=fM b 9 (1+bM b 8 8) ∅;unfold iH
 lia
abbrev wk (b k:Int):List Nat:=(wd b).set (iH b) (lc ((bM b 10 26+k)%26))
abbrev aj (b k:Int):Str:=if fP (.str (tx (wk b k))) tkV=true then tx (wk b k++[122]) else tx (wk b k)
def xC (b:Int):(wd b).length=fR b:=by unfold wd; rw[J7,JY]
def oP (b k:Int):(wk b k).length=fR b:=by unfold wk; rw[Ko,xC]
variable {b:Int}
def xS {k k':Int}(h:wk b k=wk b k'):(bM b 10 26+k)%26=(bM b 10 26+k')%26:=by
 have hl:iH b<(wd b).length:=by rw[xC]; exact(yC b).1
 have h1:(wk b k)[iH b]?=⇑(lc ((bM b 10 26+k)%26)):=by unfold wk; rw[KI hl]
 have h2:(wk b k')[iH b]?=⇑(lc ((bM b 10 26+k')%26)):=by unfold wk; rw[KI hl]
 rw[h,h2] at h1;have b1:=cG (bM b 10 26+k) 26 #[];have b2:=cG (bM b 10 26+k') 26 #[];exact G8 b1.1 b1.2 b2.1 b2.2 (Option.some.inj h1).symm
def uA {k k':Int}(h:aj b k=aj b k'):(bM b 10 26+k)%26=(bM b 10 26+k')%26:=by
 have l1:=oP b k;have l2:=oP b k';unfold aj at h;split at h
 . split at h
   . exact xS (List.append_cancel_right (tx_inj h))
   . have:=Jj List.length (tx_inj h);rw[JE] at this;simp at this
     lia
 . split at h
   . have:=Jj List.length (tx_inj h);rw[JE] at this;simp at this
     lia
   . exact xS (tx_inj h)
def xO {k:Int}:∀c∈wk b k,c∈K12.lets.cps.toList:=λc hc=>by
 unfold wk at hc;rcases M0 hc with h|h
 . unfold wd at h;let#[j,_,rfl]:=JW.mp h;have b1:=fM b j 26 #[];exact vP b1.1 b1.2
 . rw[h];have b1:=cG (bM b 10 26+k) 26 #[];exact vP b1.1 b1.2
def jg (b k:Int):K12.Nm (aj b k):=by
 have l1:=oP b k;have l2:=qq b;unfold aj;split
 . show#[by rw[dO,JE,l1]; simp; lia,yX λc hc=>?_];rcases JZ.mp hc with h|h
   . exact xO c h
   . rw[JK.mp h]; decide +kernel
 . show#[by rw[dO,l1]; lia,yX xO]
abbrev bN (K:MW) (H:Hp) (n:Nat) (v:V):Prop:=∃d,bz d=true/\ag n d/\DatV K H d v
abbrev cz (K:MW) (H:Hp) (n:Nat) (xs:List V):Prop:=∃ds,cD ds=true/\(∀d∈ds,ag n d)/\DatAll K H ds xs
variable {z:MV} {xs:List V}
section
variable {K:MW} {H H':Hp} {n m:Nat}
def bN.mono {v:V} (h:bN K H n v) (e:Same H H'):bN K H' n v:=by let#[d,t,l,z]:=h; show#[d,t,l,DatV.mono e d v z]
def bN.up {v:V} (h:bN K H n v) (e:n<=m):bN K H m v:=by let#[d,t,l,z]:=h; show#[d,t,l*>e,z]
def bN.str {s:Str} (h:PyData.strOk s=true):bN K H n (.str s):=#[.str s,by unfold bz; rfl,ag.str h,dQ s]
def bN.int {i:Int}:bN K H n (.int i):=#[.int i,by unfold bz; rfl,ag.int i,cx i]
def bN.bl {b:Bool}:bN K H n (.bl b):=#[.bool b,by unfold bz; rfl,ag.bool b,Gr b]
def cz.mono {xs:List V} (h:cz K H n xs) (e:Same H H'):cz K H' n xs:=by let#[d,t,l,z]:=h; show#[d,t,l,DatAll.mono e d xs z]
def cz.ers (h:cz K H n xs) (hz:iO H z):cz K (ers z H) n xs:=by let#[d,t,l,y]:=h; show#[d,t,l,DatAll.ersT hz d xs t y]
def cz.nil:cz K H n []:=#[[],by unfold cD; rfl,λd h=>(by cases h),bK]
def cz.cons {x:V} {xs:List V} (h:bN K H n x) (t:cz K H n xs):cz K H n (x::xs):=by let#[d,u,l,z]:=h;let#[ds,us,ls,zs]:=t;show#[d::ds,by unfold cD; rw[u,us]; rfl,λe he=>(JS.mp he).elim (λz=>z ▸ l) (ls e),ck z zs]
def cz.of:∀{xs:List V},(∀x∈xs,bN K H n x)->cz K H n xs
 | [],_=>.nil
 | x::xs,h=>.cons (h x Je) (cz.of λy hy=>h y (Jc _ hy))
def bN.tup {a:MV} {xs:List V} (h:aJ K H a xs) (t:cz K H n xs):bN K H (n+1) ↥a:=by let#[ds,us,ls,zs]:=t;show#[.tuple ds,by unfold bz; exact us,ag.tuple ls,gP h zs]
abbrev iE (K:MW) (H:Hp) (x:RR):Prop:=RRok K H x/\bN K H 3 ↥x.w.r
def iE.mono {x:RR} (h:iE K H x) (e:Same H H'):iE K H' x:=#[Bg.RRok.mono h.1 e,h.2*>e]
def Fz {g:JM Str} {as:List V} (h:K12.RowS K H xs g as) (hz:iO H z):K12.RowS K (ers z H) xs g as:=by
 cases h with
 | call x f p as hp=>exact .call x f p as (mq hp hz)
 | copy x a=>exact .copy x a
 | op x s a b=>exact .op x s a b
 | new x=>exact .new x
 | get x a f=>exact .get x a f
 | put a f b=>exact .put a f b
 | out a=>exact .out a
 | back a=>exact .back a
 | ifs a=>exact .ifs a
 | whl a=>exact .whl a
 | els=>exact .els
 | fin=>exact .fin
def Dy {f:F2.Fd} (h:F2.FnAt K H f) (hz:iO H z):F2.FnAt K (ers z H) f:=by
 have tt:∀{a:MV} {xs:List V},aJ K H a xs->aJ K (ers z H) a xs:=λh=>mq h hz;show#[tt h.fn,tt h.pr,tt h.rw_,λw hw=>?_,?_,h.wf,h.len]
 . let#[rest,h1,h2]:=h.rk w hw;show#[rest,tt h1,h2]
 . let#[n,b,pp,r,z1,z2,z3]:=h.fu.fn;show#[#[n,b,pp,r,tt z1,tt z2,tt z3],λd hd=>?_,h.fu.pn,h.fu.pl,h.fu.dl];have hr:=h.fu.rows d hd;show#[by let#[xs,h1,h2]:=hr.row; show#[xs,tt h1,Fz h2 hz],hr.ats,hr.len,hr.nm]
end
def uK {ks:List Str} (g:K13.Good ks []):∀n,K13.Good (ks++(List.replicate n [("if":Str),"else","end"]).flatten) []
 | 0=>by rw[List.replicate_zero,List.flatten_nil,Jq]; exact g
 | n+1=>by
   have g0:=uK g n;have g1:=((g0.opn (x:="if") 0xA).els').fin;rw[List.replicate_succ',Kx];have e:ks++((List.replicate n [("if":Str),"else","end"]).flatten++[[("if":Str),"else","end"]].flatten)=ks++(List.replicate n [("if":Str),"else","end"]).flatten++[("if":Str)]++[("else":Str)]++[("end":Str)]:=by simp
   rw[e];exact g1
def sj (a n:Nat):K13.Wf (List.replicate a ("copy":Str)++(List.replicate n [("if":Str),"else","end"]).flatten++[("back":Str)]):=by have g0:=vD K13.good_nil (x:="copy") 0xA 0xA 0xA a;rw[MN] at g0;exact(uK g0 n).back
structure Bd where
 f:F2.Fd
 cnt:Nat
 e:Addr
structure EntAt (K:W.Frag) (H:Hp) (x:Bd):Prop where
 en:aH K H x.e [↥x.f.fa,.int x.cnt]
 fn:F2.FnAt K H x.f
 hd:cz K H 4 [x.f.fo,↥x.f.pa,↥x.f.ra]
 ne:x.f.rs≠[]
 cn:x.cnt<=24
 ok:PyData.strOk x.f.name=true
 dr:aJ K H x.f.ra (x.f.ds.map λd=>V.ref d.r)
def EntAt.mono {K:MW} {H H':Hp} {x:Bd} (h:EntAt K H x) (e:Same H H'):EntAt K H' x:=#[e.seq h.en,h.fn*>e,h.hd*>e,h.ne,h.cn,h.ok,e<*h.dr]
variable {K:MW} {H:Hp}
def EntAt.has {x:Bd} (h:EntAt K H x):bN K H 5 ↥x.f.fa:=bN.tup h.fn.fn (.cons (.str h.ok) h.hd)
structure BuiltAt (K:W.Frag) (H:Hp) (b:Addr) (bs:List Bd):Prop where
 ls:aH K H b (bs.map λx=>V.ref x.e)
 all:∀x∈bs,EntAt K H x
 n0:bs≠[]
 n12:bs.length<=12
 nd:(bs.map λx=>x.f.name).Nodup
def BuiltAt.mono {K:MW} {H H':Hp} {b:MV} {bs:List Bd} (h:BuiltAt K H b bs) (e:Same H H'):BuiltAt K H' b bs:=#[e.seq h.ls,λx hx=>(h.all x hx)*>e,h.n0,h.n12,h.nd]
abbrev cU (fns:List F2.Fd) (k:Nat):Str:=(fns[k]?.map (·.name)).getD ""
def gj {fns:List F2.Fd} {k:Nat} {f:F2.Fd} (h:fns[k]?=⇑f):cU fns k=f.name:=by unfold cU; rw[h]; rfl
def GI {fns:List F2.Fd} (nd:(fns.map (·.name)).Nodup) {i j:Nat} (hi:i<fns.length) (hj:j<fns.length) (h:cU fns i=cU fns j):i=j:=by
 rw[gj (JA hi),gj (JA hj)] at h;have h1:(fns.map (·.name))[i]?=some fns[i].name:=by rw[JC,JA hi]; rfl
 have h2:(fns.map (·.name))[j]?=some fns[j].name:=by rw[JC,JA hj]; rfl
 rw[h] at h1;exact(L8 (JF.mp h1).1 nd).mp (h1\h2.symm)
structure Mk where
 ch:List (Nat×Nat)
 vs:List (List (Option BTr))
abbrev cY:Mk:=#[[],[]]
structure MOk (n:Nat) (m:Mk):Prop where
 l3:m.ch.length<=3
 ix:∀c∈m.ch,c.1<n/\c.2<100
 vl:m.vs.length=m.ch.length
 c24:∀v∈m.vs,v.length<=24
 ok:∀v∈m.vs,∀o∈v,cS o
abbrev tP (cn:Nat->Nat) (m:Mk):Prop:=∀(l:Nat) c v,m.ch[l]?=⇑c->m.vs[l]?=⇑v->v.length=cn c.1
def wM (n:Nat):MOk n cY:=#[Jd _,(λc h=>by cases h),rfl,(λv h=>by cases h),(λv h=>by cases h)]
def DA (cn:Nat->Nat):tP cn cY:=λl c v h=>by cases h
abbrev lO (m0:Mk) (l k:Nat):Bool:=match m0.ch[l]? with
 | some c=>decide (c.1=k)
 | none=>false
abbrev cP (m0:Mk) (l k:Nat):List (JM BTr):=if lO m0 l k=true then m0.vs.getD l [] else []
abbrev fB (c:Nat×Nat):List Nat:=nb c.1++nb c.2
abbrev j3 (m:Mk) (l:Nat):Nat:=(m.ch.getD l (0,0)).1
abbrev iC (m:Mk) (l:Nat):List (JM BTr):=m.vs.getD l []
abbrev wB (m0 m:Mk) (l:Nat):List Nat:=vb (cP m0 l (j3 m l)) (iC m l)
abbrev mb (m0 m:Mk):List Nat:=nb m.ch.length++(m.ch.map fB).flatten++((List.range m.ch.length).map (wB m0 m)).flatten
abbrev dS (ms:List Mk):Nat->Mk
 | 0=>cY
 | j+1=>ms.getD j cY
abbrev eZ (ms:List Mk) (n:Nat):List (List Nat):=(List.range n).map λj=>mb (dS ms j) (ms.getD j cY)
abbrev c6 (ms:List Mk):List Nat:=nb ms.length++(eZ ms ms.length).flatten
def Hl (ms:List Mk) (n:Nat):eZ ms (n+1)=eZ ms n++[mb (dS ms n) (ms.getD n cY)]:=by unfold eZ; rw[Jy,JB]; rfl
def nI (ms:List Mk) (n:Nat):(eZ ms n).length=n:=by unfold eZ; rw[J7,JY]
variable {n:Nat}
def Cf (h:n<8 ^ 16):(nb n).length<=64:=jX 15 n h
def iq (h:n<1000):(nb n).length<=64:=Cf (by rw[ej]; lia)
variable {m:Mk}
def wz (h:MOk n m) (hn:n<=12):∀x∈m.ch.map fB,x.length<=128:=λx hx=>by
 let#[c,hc,rfl]:=JW.mp hx;have h1:=h.ix c hc;have h2:=iq (n:=c.1) ∅;have h3:=iq (n:=c.2) ∅;unfold fB;rw[JE]
 lia
def ow (h:MOk n m) (l:Nat):(iC m l).length<=24/\∀o∈iC m l,cS o:=by
 unfold iC;rw[JH];cases e:m.vs[l]? with
 | none=>show#[Jd _,λo h=>by cases h]
 | some v=>show#[h.c24 v (J9 e),h.ok v (J9 e)]
def wX (h:MOk n m) (l k:Nat):(cP m l k).length<=24/\∀o∈cP m l k,cS o:=by
 unfold cP;split
 . exact ow h l
 . show#[Jd _,λo h=>by cases h]
def Ih {m0:Mk}(h:MOk n m) (l:Nat):(wB m0 m l).length<=14400:=by
 have h1:=ow h l;have h2:=qd (ah:=cP m0 l (j3 m l)) h1.2;have:(iC m l).length * 600<=24 * 600:=KB _ h1.1;unfold wB
 lia
def zB {m0:Mk}(h:MOk n m) (hn:n<=12):(mb m0 m).length<=43700:=by
 have h1:=iq (n:=m.ch.length) (by have:=h.l3; lia);have h2:=ik (wz h hn);have h3:=ik (l:=(List.range m.ch.length).map (wB m0 m)) (c:=14400) λx hx=>by let#[l,_,rfl]:=JW.mp hx;exact Ih h l
 rw[J7,JY] at h3;rw[J7] at h2;have:=h.l3;have a1:m.ch.length * 14400<=3 * 14400:=KB _ this;have a2:m.ch.length * 128<=3 * 128:=KB _ this;unfold mb;rw[JE,JE]
 lia
def vB {ms:List Mk} (h:∀m∈ms,MOk n m) (hn:n<=12) (k:Nat) (hk:k<=ms.length):∀x∈eZ ms k,x.length<=43700:=λx hx=>by let#[j,hj,rfl]:=JW.mp hx;have hj:=KA.mp hj;refine zB (h _ ?_) hn;rw[JH,JA ∅];exact K2 _
def GU {ms:List Mk} (h:∀m∈ms,MOk n m) (hn:n<=12) (hl:ms.length<=200):(c6 ms).length<=8800000:=by
 have h1:=iq (n:=ms.length) ∅;have h2:=ik (vB h hn ms.length (JG _));rw[nI] at h2;have a1:ms.length * 43700<=200 * 43700:=KB _ hl;unfold c6;rw[JE]
 lia
abbrev d7 (v:List (JM BTr)):PyData:=.list (v.map bE)
abbrev ii (c:Nat×Nat):PyData:=.tuple [.int c.1,.int c.2]
abbrev fU (m:Mk):PyData:=.tuple [.list (m.ch.map ii),.list (m.vs.map d7)]
abbrev g8 (nm:Nat->Str) (c:Nat×Nat):PyData:=.tuple [.str (nm c.1),.int c.2]
abbrev eY (nm:Nat->Str) (m:Mk):PyData:=.tuple [.tuple (m.ch.map (g8 nm)),.list (m.vs.map d7)]
abbrev fK (nm:Nat->Str) (e:Str×List Mk):PyData:=.tuple [.str e.1,.list (e.2.map (eY nm))]
def gN {α:Type} {f:α->PyData} {l:List α} (h:∀a∈l,ag n (f a)):∀d∈l.map f,ag n d:=λd hd=>by let#[a,ha,rfl]:=JW.mp hd;exact h a ha
def lT {a b:PyData} (h1:ag n a) (h2:ag n b):∀d∈[a,b],ag n d:=λd hd=>by
 rcases JS.mp hd with e|hd
 . rw[e]; exact h1
 . rw[JK.mp hd]; exact h2
def mY {v:List (JM BTr)} (h:∀o∈v,cS o):ag 9 (d7 v):=ag.list (gN λo ho=>je (h o ho))
def Hm {nm:Nat->Str} (h:MOk n m) (hs:∀k<n,PyData.strOk (nm k)=true):ag 11 (eY nm m) :=
 ag.tuple (lT (ag.tuple (n:=9) (gN λc hc=>ag.tuple (n:=8) (lT (.str (hs _ (h.ix c hc).1)) (.int _)))) (ag.list (gN λv hv=>mY (h.ok v hv))))
def sS {nm:Nat->Str} {e:Str×List Mk} (h:∀m∈e.2,MOk n m) (hs:∀k<n,PyData.strOk (nm k)=true) (h1:PyData.strOk e.1=true):ag 13 (fK nm e) :=
 ag.tuple (lT (.str h1) (ag.list (gN λm hm=>Hm (h m hm) hs)))
def oN (nm:Nat->Str) (c:Nat×Nat):bz (g8 nm c)=true:=by unfold g8 bz cD cD cD; unfold bz; rfl
def rK (c:Nat×Nat):bz (ii c)=true:=by unfold ii bz cD cD cD; unfold bz; rfl
def iu {α:Type} {f:α->PyData} (h:∀a,bz (f a)=true):∀l:List α,cD (l.map f)=true
 | []=>by show cD []=true; unfold cD; rfl
 | a::l=>by rw[Jv]; unfold cD; rw[h a,iu h l]; rfl
def rp (nm:Nat->Str) (ch:List (Nat×Nat)):bz (.tuple (ch.map (g8 nm)))=true:=by unfold bz; exact iu (oN nm) ch
def wa {ah:List (JM BTr)} {ys:List V} (h:DatAll K H (ah.map bE) ys) (i:Nat):DatAll K H ((ah[i]?).toList.map bE) (ys[i]?).toList:=by
 cases e:ah[i]? with
 | none =>
   have:ys[i]?=none:=Jz (by have:=Kr.mp e;rw[bS h,J7];exact this)
   rw[this];exact bK
 | some a =>
   let#[x,hx,hd]:=eK h e;rw[hx];exact ck hd bK
def uM (x y:PyData):PyData.eqv (.list [x]) (.list [y])=PyData.eqv x y:=by rw[show PyData.eqv (.list [x]) (.list [y])=PyData.eqvAll [x] [y] by rw[PyData.eqv],PyData.eqvAll,PyData.eqvAll,Bool.and_true]
def BP (ah:List (JM BTr)) (o:JM BTr) (i:Nat):PyData.eqv (.list ((ah[i]?).toList.map bE)) (.list [bE o])=lk ah o i:=by
 unfold lk;cases ah[i]? with
 | none=>show PyData.eqv (.list []) _=_; unfold PyData.eqv PyData.eqvAll; rfl
 | some a=>exact uM _ _
def uj {n:Nat} {l:List (JM BTr)} (h:∀o∈l,cS o):SeqAt.shaped (.list (l.map bE))=true:=(ag.list (gN λo ho=>je (h o ho))).shaped (by decide:9<=64)
def qw (l:List (List Nat)) (x:List Nat):((l++[x]).map tx).map V.str=(l.map tx).map V.str++[V.str (tx x)]:=by rw[JB,JB]; rfl
def xL (l:List (List Nat)):((l.map tx).map V.str).length=l.length:=by rw[J7,J7]
def mP {l:List (List Nat)} (h:l.flatten.length<=16777216):((l.map tx).map (·.length)).sum+(l.map tx).length * ("":Str).length<=16777216:=by
 rw[Ha,<- Lm];show l.flatten.length+(l.map tx).length * 0<=16777216
 lia
def fW {α:Type} {p:α->Prop} {a:α} (h:p a):∀b∈[a],p b:=λb hb=>by rw[JK.mp hb]; exact h
def Cb (b k:Int):(((List.range (fR b)).map λj:Nat=>V.str (tx [lc (bM b j 26)])).set (iH b) (V.str (tx [lc ((bM b 10 26+k)%26)])))=(((wk b k).map λc=>[c]).map tx).map V.str:=by
 have e:((List.range (fR b)).map λj:Nat=>V.str (tx [lc (bM b j 26)]))=(wd b).map λc=>V.str (tx [c]):=by unfold wd; rw[Jm]; rfl
 rw[e,Jm,Jm];unfold wk;rw[List.map_set];rfl
def wo:∀l:List Nat,(l.map λc=>[c]).flatten=l
 | []=>rfl
 | x::l=>by rw[Jv,K8,wo l]; rfl
abbrev iL (ns:List Int) (k:Int):Int:=if(0:Int)<(ns.length:Int) then ns.getD (k%(ns.length:Int)).toNat 0%999983 else 7
abbrev dG (ns:List Int) (k:Int):Int:=if k<(ns.length:Int) then ns.getD k.toNat 0 else(iL ns k+613 * k+29) * (iL ns k+71 * k+5)%1000003
def tU {x:Bd} {ys:List V} (h:EntAt K H x) (hz:H z=⇑(.lst ys)) (he:H x.e=⇑(.lst [↥x.f.fa,.int x.cnt])) (hn:x.e≠z):EntAt K (ers z H) x :=
 #[E7 he hn,Dy h.fn (.lst hz),h.hd.ers (.lst hz),h.ne,h.cn,h.ok,mq h.dr (.lst hz)]
def wU (h:n<=12):((List.range n).map λj:Nat=>aj b ((j:Int)+3)).Nodup:=by
 refine Ly.mpr (LK (λ{i j} hi hj hlt e=>?_) LV);have h1:=KA.mp hi;have h2:=KA.mp hj;have:=uA e
 lia
def IA (h:n<=12):((List.range n).map λj:Nat=>aj b (25 - (j:Int))).Nodup:=by
 refine Ly.mpr (LK (λ{i j} hi hj hlt e=>?_) LV);have h1:=KA.mp hi;have h2:=KA.mp hj;have:=uA e
 lia
def DatAll.putT {ds:List PyData} {ys:List V}{p:MV} {o:HO} (t:cD ds=true) (hp:H p=⇑(.lst ys)) (h:DatAll K H ds xs):DatAll K (upd H p o) ds xs:=L2.DatAll.mono nX _ _ (DatAll.ersT (.lst hp) _ _ t h)
def pC (l:List (JM BTr)):cD (l.map bE)=true:=iu pU l
def mQ (l:List PyData):PyData.eqv (.list l) (.list [])=l.isEmpty:=by
 rw[show PyData.eqv (.list l) (.list [])=PyData.eqvAll l [] by rw[PyData.eqv]];cases l with
 | nil=>rw[PyData.eqvAll]; rfl
 | cons a l=>rw[PyData.eqvAll]; rfl
def BN (xs:List V) (x y:V):(xs++[x]).set xs.length y=xs++[y]:=by simp
def DB (n:Nat):dM (n+1) (-1)=⇑n:=by
 unfold dM;rw[JI #[],JJ ∅];congr 1
 lia
def xo {rr:List RR} {a:MV} (h:aJ K H a (rr.map λx=>V.ref x.w.r)) (h3:∀x∈rr,RRok K H x):aJ K H a ((rr.map (·.d)).map λd=>V.ref d.r):=by
 rw[Jm];have:(rr.map λx=>V.ref x.w.r)=rr.map ((λd=>V.ref d.r) ∘ (·.d)):=KU λx hx=>by show V.ref x.w.r=V.ref x.d.r;rw[(h3 x hx).1]
 rw[<- this];exact h
def Fy {x:Bd} {nm:Str} {fa:MV} (h:EntAt K H x) (hf:aJ K H fa [.str nm,x.f.fo,↥x.f.pa,↥x.f.ra]):F2.FnAt K H #[nm,x.f.fo,fa,x.f.pa,x.f.ra,x.f.ps,x.f.rs,x.f.ds] :=
 #[hf,h.fn.pr,h.fn.rw_,h.fn.rk,#[#[16,hf,h.fn.pr,h.dr],h.fn.fu.rows,h.fn.fu.pn,h.fn.fu.pl,h.fn.fu.dl],h.fn.wf,h.fn.len]
abbrev dI (l:List (List Nat)):List V:=(l.map tx).map V.str
def sh (l:List (List Nat)) (x:List Nat):dI (l++[x])=dI l++[V.str (tx x)]:=qw l x
def oG (l:List (List Nat)):(dI l).length=l.length:=xL l
def GL (c:Nat×Nat):tx (nb c.1)++tx (nb c.2)=tx (fB c):=fY _ _
def si {l:Nat} {v:List (JM BTr)} (h:m.vs[l]?=⇑v):iC m l=v:=by unfold iC; rw[JH,h]; rfl
def zC (m0 m:Mk):(nb m.ch.length::(m.ch.map fB++(List.range m.ch.length).map (wB m0 m))).flatten=mb m0 m:=by unfold mb;rw[K8,Kx,Jl]
def vz (ms:List Mk):(nb ms.length::eZ ms ms.length).flatten=c6 ms:=by unfold c6;rw[K8]
abbrev nwL (H0 H:Hp):Hp:=λb=>match H0 b with
 | some (.lst _)=>none
 | _=>H b
section
variable {K:MW} {H0 H H':Hp}
def kI {b:MV} {o:HO} (h:nwL H0 H b=⇑o):(∀ys,H0 b≠⇑(.lst ys))/\H b=⇑o:=by
 unfold nwL at h;split at h
 . cases h
 . rename_i e
   show#[λys z=>e ys z,h]
def jW {b:MV} (h:∀ys,H0 b≠⇑(.lst ys)):nwL H0 H b=H b:=by
 unfold nwL;split
 . rename_i ys e
   exact absurd e (h ys)
 . rfl
def eI {b:MV} (h:H0 b=none):nwL H0 H b=H b:=jW λys z=>by rw[h] at z; cases z
def kH:Same (nwL H0 H) H:=λb o h=>(kI h).2
def Same.nwL (e:Same H H'):Same (nwL H0 H) (nwL H0 H'):=λb o h=>by have:=kI h;rw[jW this.1];exact e b o this.2
def Ia {a:MV} (e:Same H0 H) (h:aJ K H a xs):aJ K (nwL H0 H) a xs:=by
 have key:∀o:HO,H a=⇑o->(∀ys,o≠.lst ys)->nwL H0 H a=⇑o:=λo ho hn=>by
   rw[jW λys z=>?_]
   . exact ho
   . have:=e _ _ z;rw[ho] at this;exact hn ys (Option.some.inj this)
 rcases h with(h|⟨o,h⟩)|h
 . exact .inl (.inl (key _ h (by intro ys z; cases z)))
 . exact .inl (.inr #[o,key _ h (by intro ys z; cases z)])
 . exact .inr h
mutual
theorem DatV.nwT (e:Same H0 H):∀(d:PyData) (v:V),bz d=true->DatV K H d v->DatV K (nwL H0 H) d v
 | .none,v,t,h=>by unfold DatV at h ⊢; exact h
 | .bool b,v,t,h=>by unfold DatV at h ⊢; exact h
 | .int i,v,t,h=>by unfold DatV at h ⊢; exact h
 | .str x,v,t,h=>by unfold DatV at h ⊢; exact h
 | .list ds,v,t,h=>by unfold bz at t; cases t
 | .tuple ds,v,t,h=>by unfold DatV at h ⊢;unfold bz at t;let#[a,xs,rfl,hq,hd]:=h;show#[a,xs,rfl,Ia e hq,DatAll.nwT e ds xs t hd]
 | .dict _,v,t,h=>by unfold bz at t; cases t
theorem DatAll.nwT (e:Same H0 H):∀(ds:List PyData) (xs:List V),cD ds=true->DatAll K H ds xs->DatAll K (nwL H0 H) ds xs
 | [],xs,t,h=>by unfold DatAll at h ⊢; exact h
 | d::ds,xs,t,h=>by unfold DatAll at h ⊢;unfold cD at t;rw[Jf] at t;let#[x,r,rfl,hd,hds]:=h;show#[x,r,rfl,DatV.nwT e d x t.1 hd,DatAll.nwT e ds r t.2 hds]
end
def lD {l:MV} {o:HO}:ers l (nwL H0 (upd H l o))=ers l (nwL H0 H):=by
 funext b;by_cases h:b=l
 . subst h; unfold ers; rw[JJ rfl,JJ rfl]
 . rw[aU h,aU h];unfold nwL;rw[aR h]
end
abbrev bQ (l:List Nat):Prop:=∀x∈l,x=48\/x=49
def vE:bQ []:=λx h=>by cases h
def gE {c:Nat} {l:List Nat} (h:c=48\/c=49) (t:bQ l):bQ (c::l):=λx hx=>(JS.mp hx).elim (λe=>e ▸ h) (t x)
def jI {a b:List Nat} (h:bQ a) (t:bQ b):bQ (a++b):=λx hx=>(JZ.mp hx).elim (h x) (t x)
def nJ {l:List (List Nat)} (h:∀x∈l,bQ x):bQ l.flatten:=λc hc=>by let#[x,hx,hc]:=LA.mp hc;exact h x hx c hc
def rP (n c:Nat):bQ (pb n c):=λx hx=>IG hx
def k6 (n:Nat):bQ (nb n):=by
 induction n using Nat.strongRecOn with
 | _ n ih =>
   by_cases h:n<8
   . rw[iK h]; exact gE (.inl rfl) (rP _ _)
   . rw[lP h]; exact jI (gE (.inr rfl) (rP _ _)) (ih (n / 8) ∅)
def tf:∀t:BTr,bQ (rb t)
 | .box k=>gE (.inl rfl) (k6 k)
 | .num k=>gE (.inr rfl) (gE (.inl rfl) (k6 k))
 | .op i l r=>jI (jI (gE (.inr rfl) (gE (.inr rfl) (rP _ _))) (tf l)) (tf r)
def Gh (o:JM BTr):bQ (ob o):=by
 cases o with
 | none=>exact gE (.inl rfl) (gE (.inl rfl) vE)
 | some t=>exact gE (.inr rfl) (tf t)
def EQ (ah pl:List (JM BTr)):bQ (vb ah pl):=nJ λx hx=>by
 let#[i,_,rfl]:=JW.mp hx;unfold gX;split
 . exact gE (.inl rfl) (gE (.inr rfl) vE)
 . exact Gh _
def II (m0 m:Mk):bQ (mb m0 m):=jI (jI (k6 _) (nJ λx hx=>by
 let#[c,_,rfl]:=JW.mp hx;exact jI (k6 _) (k6 _))) (nJ λx hx=>by
 let#[l,_,rfl]:=JW.mp hx;exact EQ _ _)
def uy (ms:List Mk):bQ (c6 ms):=jI (k6 _) (nJ λx hx=>by let#[j,_,rfl]:=JW.mp hx;exact II _ _)
def Im {l:List Nat} (h:bQ l):PyData.strOk (tx l)=true:=by
 unfold PyData.strOk;rw[Array.all_eq_true'];intro x hx;have hx:x∈l:=by simpa [tx] using hx
 rcases h x hx with e|e <;> subst e <;> decide
end Pk
namespace Dc
open PySem L2 Gx Bt Pk
abbrev bv (l:List Nat):Nat:=l.foldl (λp c=>2 * p+if c=49 then 1 else 0) 0
def pV:∀n<8,∃x y z,pb n 3=[x,y,z]/\bv [x,y,z]=n/\(n=0 <-> x=48/\y=48/\z=48):=by
 intro n h
 match n,h with
 | 0,_=>show#[(48),(48),(48),#[],#[],#[]]
 | 1,_=>show#[(48),(48),(49),#[],#[],#[]]
 | 2,_=>show#[(48),(49),(48),#[],#[],#[]]
 | 3,_=>show#[(48),(49),(49),#[],#[],#[]]
 | 4,_=>show#[(49),(48),(48),#[],#[],#[]]
 | 5,_=>show#[(49),(48),(49),#[],#[],#[]]
 | 6,_=>show#[(49),(49),(48),#[],#[],#[]]
 | 7,_=>show#[(49),(49),(49),#[],#[],#[]]
def bv3 {x y z:Nat} (hx:x=48\/x=49) (hy:y=48\/y=49) (hz:z=48\/z=49):bv [x,y,z]<8/\pb (bv [x,y,z]) 3=[x,y,z]:=by rcases hx with rfl|rfl <;> rcases hy with rfl|rfl <;> rcases hz with rfl|rfl <;> show#[#[],#[]]
def bv4 {x y z u:Nat} (hx:x=48\/x=49) (hy:y=48\/y=49) (hz:z=48\/z=49) (hu:u=48\/u=49):bv [x,y,z,u]<16/\pb (bv [x,y,z,u]) 4=[x,y,z,u]:=by rcases hx with rfl|rfl <;> rcases hy with rfl|rfl <;> rcases hz with rfl|rfl <;> rcases hu with rfl|rfl <;> show#[#[],#[]]
def pb4:∀n<9,∃x y z u,pb n 4=[x,y,z,u]/\bv [x,y,z,u]=n:=by
 intro n h
 match n,h with
 | 0,_=>show#[(48),(48),(48),(48),#[],#[]]
 | 1,_=>show#[(48),(48),(48),(49),#[],#[]]
 | 2,_=>show#[(48),(48),(49),(48),#[],#[]]
 | 3,_=>show#[(48),(48),(49),(49),#[],#[]]
 | 4,_=>show#[(48),(49),(48),(48),#[],#[]]
 | 5,_=>show#[(48),(49),(48),(49),#[],#[]]
 | 6,_=>show#[(48),(49),(49),(48),#[],#[]]
 | 7,_=>show#[(48),(49),(49),(49),#[],#[]]
 | 8,_=>show#[(49),(48),(48),(48),#[],#[]]
abbrev cw:Nat->Nat->Nat->List Nat->JM (Nat×List Nat)
 | f+1,k,acc,a::b::c::d::r=>if a=48 then(if(b=48/\c=48/\d=48)/\0<k then none else ⇑(acc+bv [b,c,d] * 8 ^ k,r)) else cw f (k+1) (acc+bv [b,c,d] * 8 ^ k) r
 | _,_,_,_=>none
def yF:∀(f k acc n:Nat) (r:List Nat),n<8 ^ (f+1)->(0<k->0<n)->cw (f+1) k acc (nb n++r)=⇑(acc+n * 8 ^ k,r):=by
 intro f
 induction f with
 | zero =>
   intro k acc n r hn hk;have h8:n<8:=↑hn
   let#[x,y,z,e,v,nz]:=pV n h8;rw[iK h8,e];show(if(48:Nat)=48 then(if(x=48/\y=48/\z=48)/\0<k then none else ⇑(acc+bv [x,y,z] * 8 ^ k,r)) else _)=_;rw[JJ rfl,JI (λh=>by have:=hk h.2; have:=nz.mpr h.1; lia),v]
 | succ f ih =>
   intro k acc n r hn hk;by_cases h8:n<8
   . let#[x,y,z,e,v,nz]:=pV n h8;rw[iK h8,e];show(if(48:Nat)=48 then(if(x=48/\y=48/\z=48)/\0<k then none else ⇑(acc+bv [x,y,z] * 8 ^ k,r)) else _)=_;rw[JJ rfl,JI (λh=>by have:=hk h.2; have:=nz.mpr h.1; lia),v]
   . let#[x,y,z,e,v,nz]:=pV (n%8) (Nat.mod_lt _ #[]);rw[lP h8,e];show(if(49:Nat)=48 then _ else cw (f+1) (k+1) (acc+bv [x,y,z] * 8 ^ k) (nb (n / 8)++r))=_;rw[JI #[],v,ih (k+1) _ (n / 8) r (by rw[LJ] at hn; lia) (λ_=>by lia)];congr 2;rw[LJ];have e1:n / 8 * (8 ^ k * 8)=(n / 8 * 8) * 8 ^ k:=by rw[M6 (8 ^ k) 8,Nat.mul_assoc]
     have e2:n%8 * 8 ^ k+n / 8 * 8 * 8 ^ k=n * 8 ^ k:=by rw[<- Nat.add_mul]; congr 1; lia
     rw[e1,MS,e2]
def vS:∀(f k acc:Nat) (l:List Nat) (m:Nat) (r:List Nat),bQ l->cw f k acc l=⇑(m,r)->∃n,m=acc+n * 8 ^ k/\l=nb n++r/\n<8 ^ f/\(0<k->0<n):=by
 intro f
 induction f with
 | zero=>intro k acc l m r _ h; cases l <;> simp [cw] at h
 | succ f ih =>
   intro k acc l m r hb h
   match l,hb,h with
   | a::b::c::d::l',hb,h =>
     have ba:=hb a 0xB;have hp:=bv3 (hb b 0xB) (hb c 0xB) (hb d 0xB);have hl:bQ l':=λx hx=>hb x (by simp [hx]);have h:(if a=48 then(if(b=48/\c=48/\d=48)/\0<k then none else ⇑(acc+bv [b,c,d] * 8 ^ k,l')) else cw f (k+1) (acc+bv [b,c,d] * 8 ^ k) l')=⇑(m,r):=h;by_cases ha:a=48
     . rw[JJ ha] at h;by_cases hz:(b=48/\c=48/\d=48)/\0<k
       . rw[JJ hz] at h; cases h
       . rw[JI hz] at h;cases h;show#[bv [b,c,d],rfl,?_,?_,λhk=>?_]
         . rw[iK hp.1,hp.2,ha]; rfl
         . exact Jb hp.1 (by rw[LJ]; exact Nat.le_mul_of_pos_left 8 (Nat.pow_pos #[]))
         . refine Nat.pos_of_ne_zero λz=>hz #[?_,hk];let#[x,y,w,e,v,nz]:=pV _ hp.1;rw[hp.2] at e;cases e;exact nz.mp z
     . rw[JI ha] at h;have ha:a=49:=ba.resolve_left ha;let#[n,h1,h2,h3,h4]:=ih (k+1) _ l' m r hl h;have hn:=h4 (Nat.succ_pos k);have hd:(bv [b,c,d]+8 * n) / 8=n:=by lia
       have hm:(bv [b,c,d]+8 * n)%8=bv [b,c,d]:=by lia
       show#[bv [b,c,d]+8 * n,?_,?_,?_,λ_=>by lia]
       . rw[h1,LJ,Nat.add_mul,MS];congr 2;rw[M6 (8 ^ k) 8,<- Nat.mul_assoc,M6 n 8]
       . rw[lP ∅,hm,hd,hp.2,ha,h2]; rfl
       . rw[LJ]; lia
   | [],_,h=>cases h
   | [_],_,h=>cases h
   | [_,_],_,h=>cases h
   | [_,_,_],_,h=>cases h
abbrev cR (lo hi:Nat) (l:List Nat):JM (Nat×List Nat):=(cw 16 0 0 l).bind λx=>if lo<=x.1/\x.1<=hi then ⇑x else none
variable {n:Nat}
def m9 {lo hi:Nat}(r:List Nat) (h1:lo<=n) (h2:n<=hi) (h3:n<8 ^ 16):cR lo hi (nb n++r)=⇑(n,r):=by unfold cR;rw[yF 15 0 0 n r h3 (λz=>absurd z #[])];show(if lo<=0+n * 8 ^ 0/\0+n * 8 ^ 0<=hi then ⇑(0+n * 8 ^ 0,r) else none)=_;rw[MB,MQ,LI,JJ #[h1,h2]]
variable {l r:List Nat}
def jS {lo hi:Nat} {m:Nat} (hb:bQ l) (h:cR lo hi l=⇑(m,r)):l=nb m++r/\lo<=m/\m<=hi/\m<8 ^ 16:=by
 unfold cR at h;cases e:cw 16 0 0 l with
 | none=>rw[e] at h; cases h
 | some x =>
   rw[e] at h;have h:(if lo<=x.1/\x.1<=hi then ⇑x else none)=⇑(m,r):=h;split at h
   . rename_i hx
     cases h;let#[n,h1,h2,h3,_]:=vS 16 0 0 l m r hb e;rw[MB,MQ,LI] at h1;subst h1;show#[h2,hx.1,hx.2,h3]
   . cases h
def HK {m:Nat} (hb:bQ l) (h:cw 16 0 0 l=⇑(m,r)):l=nb m++r/\m<8 ^ 16:=by let#[n,h1,h2,h3,_]:=vS 16 0 0 l m r hb h;rw[MB,MQ,LI] at h1;subst h1;show#[h2,h3]
def Hb (r:List Nat) (h:n<8 ^ 16):cw 16 0 0 (nb n++r)=⇑(n,r):=by rw[yF 15 0 0 n r h (λz=>absurd z #[]),MB,MQ,LI]
abbrev bZ:Nat->Nat->List Nat->JM (BTr×List Nat)
 | f+1,most,48::r=>if most<1 then none else(cR 0 127 r).map λx=>(.box x.1,x.2)
 | f+1,most,49::48::r=>if most<1 then none else(cw 16 0 0 r).map λx=>(.num x.1,x.2)
 | f+1,most,49::49::a::b::c::d::r=>if most<1 then none else if bv [a,b,c,d]<9 then(bZ f (most - 1) r).bind λx=>(bZ f (most - lv x.1) x.2).map λy=>(.op (bv [a,b,c,d]) x.1 y.1,y.2) else none
 | _,_,_=>none
abbrev jY:BTr->Prop
 | .box k=>k<=127
 | .num _=>True
 | .op _ l r=>jY l/\jY r
def lJ:∀t:BTr,0<lv t
 | .box _=>Lj
 | .num _=>Lj
 | .op _ l r=>Jb (lJ l) (LZ _ _)
def tT:∀(t:BTr) (f most:Nat) (r:List Nat),tok t->jY t->lv t<=most->most<=f->bZ f most (rb t++r)=⇑(t,r)
 | .box k,f,most,r,ht,hs,hl,hf=>by
   have hl:1<=most:=hl;obtain⟨f,rfl⟩:∃g,f=g+1:=#[f - 1,∅]
   show(if most<1 then none else(cR 0 127 (nb k++r)).map λx=>(BTr.box x.1,x.2))=_;rw[JI ∅,m9 r (Jd _) hs ht];rfl
 | .num k,f,most,r,ht,hs,hl,hf=>by
   have hl:1<=most:=hl;obtain⟨f,rfl⟩:∃g,f=g+1:=#[f - 1,∅]
   show(if most<1 then none else(cw 16 0 0 (nb k++r)).map λx=>(BTr.num x.1,x.2))=_;rw[JI ∅,Hb r ht];rfl
 | .op i u v,f,most,r,ht,hs,hl,hf=>by
   have hl:lv u+lv v<=most:=hl;have pu:=lJ u;have pv:=lJ v;obtain⟨f,rfl⟩:∃g,f=g+1:=#[f - 1,∅]
   let#[x,y,z,w,e,q]:=pb4 i ht.1;have er:rb (.op i u v)++r=49::49::x::y::z::w::(rb u++(rb v++r)):=by show(49::49::pb i 4++rb u++rb v)++r=_;rw[e];simp
   rw[er];show(if most<1 then none else if bv [x,y,z,w]<9 then(bZ f (most - 1) (rb u++(rb v++r))).bind λa=>(bZ f (most - lv a.1) a.2).map λb=>(BTr.op (bv [x,y,z,w]) a.1 b.1,b.2) else none)=_;rw[JI ∅,q,JJ ht.1,tT u f (most - 1) _ ht.2.1 hs.1 ∅ ∅];show(bZ f (most - lv u) (rb v++r)).map (λb=>(BTr.op i u b.1,b.2))=_;rw[tT v f (most - lv u) r ht.2.2 hs.2 ∅ ∅];rfl
def tW:∀(f most:Nat) (l:List Nat) (t:BTr) (r:List Nat),bQ l->bZ f most l=⇑(t,r)->l=rb t++r/\tok t/\jY t/\lv t<=most:=by
 intro f
 induction f with
 | zero=>intro most l t r _ h; simp [bZ] at h
 | succ f ih =>
   intro most l t r hb h
   match l,hb,h with
   | [],_,h=>simp [bZ] at h
   | x::l',hb,h =>
     rcases hb x 0xB with rfl|rfl
     . have h:(if most<1 then none else(cR 0 127 l').map λx=>(BTr.box x.1,x.2))=⇑(t,r):=h;split at h
       . cases h
       . cases e:cR 0 127 l' with
         | none=>rw[e] at h; cases h
         | some x =>
           rw[e] at h;cases h;let#[h1,_,h3,h4]:=jS (λc hc=>hb c (by simp [hc])) (show cR 0 127 l'=⇑(x.1,x.2) from e);show#[?_,h4,h3,by show 1<=most; lia];rw[h1]; rfl
     . match l',hb,h with
       | [],_,h=>simp [bZ] at h
       | x::l',hb,h =>
         rcases hb x 0xB with rfl|rfl
         . have h:(if most<1 then none else(cw 16 0 0 l').map λx=>(BTr.num x.1,x.2))=⇑(t,r):=h;split at h
           . cases h
           . cases e:cw 16 0 0 l' with
             | none=>rw[e] at h; cases h
             | some x =>
               rw[e] at h;cases h;let#[h1,h4]:=HK (λc hc=>hb c (by simp [hc])) (show cw 16 0 0 l'=⇑(x.1,x.2) from e);show#[?_,h4,trivial,by show 1<=most; lia];rw[h1]; rfl
         . match l',hb,h with
           | [],_,h=>simp [bZ] at h
           | [_],_,h=>simp [bZ] at h
           | [_,_],_,h=>simp [bZ] at h
           | [_,_,_],_,h=>simp [bZ] at h
           | a::b::c::d::l',hb,h =>
             have h:(if most<1 then none else if bv [a,b,c,d]<9 then(bZ f (most - 1) l').bind λx=>(bZ f (most - lv x.1) x.2).map λy=>(BTr.op (bv [a,b,c,d]) x.1 y.1,y.2) else none)=⇑(t,r):=h;split at h
             . cases h
             . split at h
               . rename_i hm h9
                 cases e:bZ f (most - 1) l' with
                 | none=>rw[e] at h; cases h
                 | some x =>
                   rw[e] at h;have h:(bZ f (most - lv x.1) x.2).map (λy=>(BTr.op (bv [a,b,c,d]) x.1 y.1,y.2))=⇑(t,r):=h;have hl:bQ l':=λc hc=>hb c (by simp [hc]);let#[u1,u2,u3,u4]:=ih (most - 1) l' x.1 x.2 hl e;cases e2:bZ f (most - lv x.1) x.2 with
                   | none=>rw[e2] at h; cases h
                   | some y =>
                     rw[e2] at h;cases h;let#[v1,v2,v3,v4]:=ih _ x.2 y.1 y.2 (λc hc=>hl c (by rw[u1]; simp [hc])) e2;have hp:=bv4 (hb a 0xB) (hb b 0xB) (hb c 0xB) (hb d 0xB);have:=lJ y.1;show#[?_,#[h9,u2,v2],#[u3,v3],by show lv x.1+lv y.1<=most; lia];show _=(49::49::pb (bv [a,b,c,d]) 4++rb x.1++rb y.1)++y.2;rw[hp.2,u1,v1];simp
               . cases h
def ER:∀i<9,∀j<9,eQ i=eQ j->i=j:=by decide +kernel
def et (a b:List PyData):PyData.eqv (.tuple a) (.tuple b)=PyData.eqvAll a b:=by rw[PyData.eqv]
def ec (a b:PyData) (l m:List PyData):PyData.eqvAll (a::l) (b::m)=(PyData.eqv a b&&PyData.eqvAll l m):=by rw[PyData.eqvAll]
def es (a b:Str) (h:PyData.eqv (.str a) (.str b)=true):a=b:=by rw[PyData.eqv] at h; exact eq_of_beq h
def ei (a b:Nat) (h:PyData.eqv (.int a) (.int b)=true):a=b:=by rw[PyData.eqv] at h; exact Int.ofNat.inj (eq_of_beq h)
def e0 (a:PyData) (l:List PyData):PyData.eqvAll [] (a::l)=false:=by rw[PyData.eqvAll]
def e0' (a:PyData) (l:List PyData):PyData.eqvAll (a::l) []=false:=by rw[PyData.eqvAll]
def e2 {a b c d:PyData} (h:PyData.eqv (.tuple [a,b]) (.tuple [c,d])=true):PyData.eqv a c=true/\PyData.eqv b d=true:=by rw[et,ec,ec,Jf,Jf] at h;show#[h.1,h.2.1]
def e3 {a b c d e f:PyData} (h:PyData.eqv (.tuple [a,b,c]) (.tuple [d,e,f])=true):PyData.eqv a d=true/\PyData.eqv b e=true/\PyData.eqv c f=true:=by rw[et,ec,ec,ec,Jf,Jf,Jf] at h;show#[h.1,h.2.1,h.2.2.1]
def e23 {a b c d e:PyData} (h:PyData.eqv (.tuple [a,b]) (.tuple [c,d,e])=true):False:=by rw[et,ec,ec,e0,LO,LO] at h;cases h
def e32 {a b c d e:PyData} (h:PyData.eqv (.tuple [a,b,e]) (.tuple [c,d])=true):False:=by rw[et,ec,ec,e0',LO,LO] at h;cases h
def C1 {a:BTr}:∀{b:BTr},tok a->tok b->PyData.eqv (db a) (db b)=true->a=b:=by
 induction a with
 | box k =>
   intro b _ _ h;cases b with
   | box j=>rw[ei _ _ (e2 h).2]
   | num j=>exact absurd (es _ _ (e2 h).1) #[]
   | op i l r=>exact(e23 h).elim
 | num k =>
   intro b _ _ h;cases b with
   | num j=>rw[ei _ _ (e2 h).2]
   | box j=>exact absurd (es _ _ (e2 h).1) #[]
   | op i l r=>exact(e23 h).elim
 | op i l r hl hr =>
   intro b ha hb h;cases b with
   | num j=>exact(e32 h).elim
   | box j=>exact(e32 h).elim
   | op j u v =>
     have h:=e3 h;rw[ER i ha.1 j hb.1 (es _ _ h.1),hl ha.2.1 hb.2.1 h.2.1,hr ha.2.2 hb.2.2 h.2.2]
def tV {a b:JM BTr} (ha:cS a) (hb:cS b) (h:PyData.eqv (bE a) (bE b)=true):a=b:=by
 cases a with
 | none=>cases b with
   | none=>rfl
   | some t=>cases t <;> simp [bE,db,PyData.eqv] at h
 | some t=>cases b with
   | none=>cases t <;> simp [bE,db,PyData.eqv] at h
   | some u=>rw[C1 ha.1 hb.1 h]
abbrev dY {α:Type} (f:Nat->List α->List Nat->JM (α×List Nat)):Nat->List Nat->JM (List α×List Nat)
 | 0,l=>⇑([],l)
 | n+1,l=>(dY f n l).bind λx=>(f n x.1 x.2).map λy=>(x.1++[y.1],y.2)
def m6 {α:Type} {f:Nat->List α->List Nat->JM (α×List Nat)} {m:Nat}(h:dY f n l=none) (hm:n<=m):dY f m l=none:=by
 induction m with
 | zero=>rw[Nat.le_zero.mp hm] at h; exact h
 | succ m ih =>
   by_cases e:n=m+1
   . rw[<- e]; exact h
   . show(dY f m l).bind _=none;rw[ih ∅];rfl
def kf {α:Type} {f:Nat->List α->List Nat->JM (α×List Nat)} {xs:List α} (h:dY f n l=⇑(xs,r)):dY f (n+1) l=(f n xs r).map λy=>(xs++[y.1],y.2):=by show(dY f n l).bind _=_;rw[h];rfl
def lH {α:Type} {f:Nat->List α->List Nat->JM (α×List Nat)} {xs:List α} {e:Nat->List Nat} (h:∀(k:Nat) x r,xs[k]?=⇑x->f k (xs.take k) (e k++r)=⇑(x,r)):∀(n:Nat) (r:List Nat),n<=xs.length->dY f n (((List.range n).map e).flatten++r)=⇑(xs.take n,r)
 | 0,r,_=>rfl
 | n+1,r,hn=>by
   have ih:=lH h n (e n++r) ∅;have e1:((List.range (n+1)).map e).flatten++r=((List.range n).map e).flatten++(e n++r):=by rw[Jy,JB,Kx];simp
   have hx:=JA (show n<xs.length by lia);rw[e1,kf ih,h n _ r hx,Jr,hx];rfl
def kr {α:Type} (d:α) {f:Nat->List α->List Nat->JM (α×List Nat)} {e:Nat->List α->α->List Nat} {I:Nat->α->Prop}
   (h:∀(k:Nat) acc r x r',bQ r->acc.length=k->(∀(j:Nat) a,acc[j]?=⇑a->I j a)->f k acc r=⇑(x,r')->r=e k acc x++r'/\I k x) :
   ∀(n:Nat) (l:List Nat) (xs:List α) (r:List Nat),bQ l->dY f n l=⇑(xs,r)->xs.length=n/\l=((List.range n).map λk=>e k (xs.take k) (xs.getD k d)).flatten++r/\∀(j:Nat) a,xs[j]?=⇑a->I j a
 | 0,l,xs,r,_,hm=>by cases hm; show#[7,λj a z=>by cases z]
 | n+1,l,xs,r,hb,hm=>by
   cases e1:dY f n l with
   | none=>rw[m6 e1 (Kf n)] at hm; cases hm
   | some x =>
     rw[kf (show dY f n l=⇑(x.1,x.2) from e1)] at hm;cases e2:f n x.1 x.2 with
     | none=>rw[e2] at hm; cases hm
     | some y =>
       rw[e2] at hm;cases hm;let#[h1,h2,h3]:=kr d h n l x.1 x.2 hb e1;let#[g1,g2]:=h n x.1 x.2 y.1 y.2 (λc hc=>hb c (by rw[h2]; simp [hc])) h1 h3 e2;show#[by rw[JE,h1]; rfl,?_,λj a ha=>?_]
       . rw[Jy,JB,Kx,Jv,M7,K8,List.flatten_nil,Jq];have e3:(List.range n).map (λk=>e k ((x.1++[y.1]).take k) ((x.1++[y.1]).getD k d))=(List.range n).map (λk=>e k (x.1.take k) (x.1.getD k d)):=KU λk hk=>by have hk:=KA.mp hk;rw[List.take_append_of_le_length ∅,JH,JH,KC ∅]
         have e4:(x.1++[y.1]).take n=x.1:=by rw[<- h1]; simp
         have e5:(x.1++[y.1]).getD n d=y.1:=by rw[JH,<- h1,K1 (JG _),MC]; rfl
         rw[e3,e4,e5,Jl,<- g1,<- h2]
       . by_cases hj:j<n
         . rw[KC ∅] at ha;exact h3 j a ha
         . have:j=n:=by
             have:=(JF.mp ha).1;rw[JE] at this;simp at this
             lia
           subst this;rw[<- h1,K1 (JG _),MC] at ha;cases ha;exact g2
abbrev gF (a:JM (JM BTr)) (o:JM BTr):Bool:=match a with
 | some a=>PyData.eqv (bE a) (bE o)
 | none=>false
def rm (ah:List (JM BTr)) (o:JM BTr) (i:Nat):gF ah[i]? o=lk ah o i:=rfl
abbrev iM (a:JM (JM BTr)):List Nat->JM (JM BTr×List Nat)
 | 49::r=>(bZ 8 8 r).bind λx=>if gF a ⇑x.1=true then none else ⇑(⇑x.1,x.2)
 | 48::48::r=>if gF a none=true then none else ⇑(none,r)
 | 48::49::r=>a.map λa=>(a,r)
 | _=>none
abbrev smO:JM BTr->Prop
 | none=>True
 | some t=>jY t
abbrev cp (o:JM BTr):Prop:=cS o/\smO o
def CM {ah:List (JM BTr)} {i:Nat} {o:JM BTr} (r:List Nat) (ha:∀a∈ah,cS a) (ho:cp o):iM ah[i]? ((if lk ah o i=true then [48,49] else Pk.ob o)++r)=⇑(o,r):=by
 by_cases h:lk ah o i=true
 . rw[JJ h];show(ah[i]?).map (λa=>(a,r))=_;unfold lk at h;cases e:ah[i]? with
   | none=>rw[e] at h; cases h
   | some a =>
     rw[e] at h;rw[<- tV (ha a (J9 e)) ho.1 h];rfl
 . rw[JI h];rw[<- rm] at h;cases o with
   | none=>show(if gF ah[i]? none=true then none else ⇑(none,r))=_; rw[JI h]
   | some t =>
     show((bZ 8 8 (rb t++r)).bind λx=>if gF ah[i]? ⇑x.1=true then none else ⇑(⇑x.1,x.2))=_;rw[tT t 8 8 r ho.1.1 ho.2 ho.1.2 (JG _)];show(if gF ah[i]? ⇑t=true then none else ⇑(⇑t,r))=_;rw[JI h]
def Gk {ah:List (JM BTr)} {i:Nat} {o:JM BTr} (hb:bQ l) (ha:∀a∈ah,cp a) (h:iM ah[i]? l=⇑(o,r)):l=(if lk ah o i=true then [48,49] else Pk.ob o)++r/\cp o:=by
 match l,hb,h with
 | [],_,h=>simp [iM] at h
 | x::l',hb,h =>
   rcases hb x 0xB with rfl|rfl
   . match l',hb,h with
     | [],_,h=>simp [iM] at h
     | x::l',hb,h =>
       rcases hb x 0xB with rfl|rfl
       . have h:(if gF ah[i]? none=true then none else ⇑(none,l'))=⇑(o,r):=h;split at h
         . cases h
         . rename_i hn
           cases h;rw[rm] at hn;rw[JI hn];show#[rfl,trivial,trivial]
       . have h:(ah[i]?).map (λa=>(a,l'))=⇑(o,r):=h;cases e:ah[i]? with
         | none=>rw[e] at h; cases h
         | some a =>
           rw[e] at h;cases h;have hm:=ha o (J9 e);have:lk ah o i=true:=by unfold lk;rw[e];exact(je hm.1).refl
           rw[JJ this];show#[rfl,hm]
   . have h:((bZ 8 8 l').bind λx=>if gF ah[i]? ⇑x.1=true then none else ⇑(⇑x.1,x.2))=⇑(o,r):=h;cases e:bZ 8 8 l' with
     | none=>rw[e] at h; cases h
     | some x =>
       rw[e] at h;have h:(if gF ah[i]? ⇑x.1=true then none else ⇑(⇑x.1,x.2))=⇑(o,r):=h;split at h
       . cases h
       . rename_i hn
         cases h;rw[rm] at hn;let#[h1,h2,h3,h4]:=tW 8 8 l' x.1 x.2 (λc hc=>hb c (by simp [hc])) e;rw[JI hn,h1];show#[rfl,#[h2,h4],h3]
abbrev il (ah:List (JM BTr)) (n:Nat) (l:List Nat):JM (List (JM BTr)×List Nat):=dY (λi _ r=>iM ah[i]? r) n l
def FU {ah pl:List (JM BTr)} (r:List Nat) (ha:∀a∈ah,cS a) (hp:∀o∈pl,cp o):il ah pl.length (vb ah pl++r)=⇑(pl,r):=by
 have:=lH (f:=λi _ r=>iM ah[i]? r) (xs:=pl) (e:=gX ah pl) (λk x r hx=>by
   have e:gX ah pl k=if lk ah x k=true then [48,49] else Pk.ob x:=by unfold gX; rw[JH,hx]; rfl
   rw[e];exact CM r ha (hp x (J9 hx))) pl.length r (JG _)
 rw[Jh] at this;exact this
def CJ {ah pl:List (JM BTr)} (hb:bQ l) (ha:∀a∈ah,cp a) (h:il ah n l=⇑(pl,r)):l=vb ah pl++r/\pl.length=n/\∀o∈pl,cp o:=by
 let#[h1,h2,h3]:=kr none (e:=λi _ o=>if lk ah o i=true then [48,49] else Pk.ob o) (I:=λ_ o=>cp o) (λk acc r x r' hr _ _ hf=>Gk hr ha hf) n l pl r hb h;show#[?_,h1,λo ho=>?_]
 . subst h1;exact h2
 . let#[k,hk]:=K0 ho;exact h3 k o hk
abbrev gV (rl:List Nat) (l:List Nat):JM ((Nat×Nat)×List Nat):=(cR 0 (rl.length - 1) l).bind λx=>(cR 0 (rl.getD x.1 0 - 1) x.2).map λy=>((x.1,y.1),y.2)
abbrev kk (ch:List (Nat×Nat)) (k:Nat):Nat:=(ch.getD k (0,0)).1
abbrev i7 (rl:List Nat) (n:Nat) (l:List Nat):JM (List (Nat×Nat)×List Nat):=dY (λ_ _ r=>gV rl r) n l
abbrev ge (cn:Nat->Nat) (m0:Mk) (ch:List (Nat×Nat)) (n:Nat) (l:List Nat):JM (List (List (JM BTr))×List Nat):=dY (λk _ r=>il (cP m0 k (kk ch k)) (cn (kk ch k)) r) n l
abbrev gI (rl:List Nat) (cn:Nat->Nat) (m0:Mk) (l:List Nat):JM (Mk×List Nat):=(cR 1 3 l).bind λx=>(i7 rl x.1 x.2).bind λch=>(ge cn m0 ch.1 ch.1.length ch.2).map λv=>(#[ch.1,v.1],v.2)
abbrev gJ (rl:List Nat) (cn:Nat->Nat) (n:Nat) (l:List Nat):JM (List Mk×List Nat):=dY (λk acc r=>gI rl cn (dS acc k) r) n l
instance (l:List Nat):Decidable (bQ l):=by unfold bQ; infer_instance
abbrev gY (rl:List Nat) (cn:Nat->Nat) (l:List Nat):JM (List Mk):=if bQ l then(cR 1 200 l).bind λx=>(gJ rl cn x.1 x.2).bind λy=>if y.2=[] then ⇑y.1 else none else none
structure MFit (rl:List Nat) (cn:Nat->Nat) (m:Mk):Prop where
 l1:1<=m.ch.length
 l3:m.ch.length<=3
 ix:∀c∈m.ch,c.1<rl.length/\c.2<rl.getD c.1 0
 vl:m.vs.length=m.ch.length
 cn:tP cn m
 ok:∀v∈m.vs,∀o∈v,cp o
structure RlOk (rl:List Nat) (cn:Nat->Nat):Prop where
 n1:1<=rl.length
 n12:rl.length<=12
 pos:∀n∈rl,1<=n/\n<=100
 cn:∀k,cn k<=24
variable {rl:List Nat} {cn:Nat->Nat}
def RlOk.at (h:RlOk rl cn) {k:Nat} (hk:k<rl.length):1<=rl.getD k 0/\rl.getD k 0<=100:=by rw[JH,JA hk];exact h.pos _ (K2 hk)
variable {m:Mk}
def MFit.mok (h:MFit rl cn m) (hr:RlOk rl cn):MOk rl.length m :=
 #[h.l3,λc hc=>#[(h.ix c hc).1,by have:=h.ix c hc; have:=hr.at this.1; lia],h.vl,λv hv=>by
   let#[k,hk]:=K0 hv;have hl:k<m.ch.length:=by rw[<- h.vl]; exact(JF.mp hk).1
   rw[h.cn k _ v (JA hl) hk];exact hr.cn _,λv hv o ho=>(h.ok v hv o ho).1]
def Du (hr:RlOk rl cn) {c:Nat×Nat} (h:c.1<rl.length/\c.2<rl.getD c.1 0) (r:List Nat):gV rl (fB c++r)=⇑(c,r):=by have hk:=hr.at h.1;have h12:=hr.n12;unfold gV fB;rw[Jl,m9 _ (Jd _) ∅ (by rw[ej]; lia)];show(cR 0 (rl.getD c.1 0 - 1) (nb c.2++r)).map _=_;rw[m9 r (Jd _) ∅ (by rw[ej]; lia)];rfl
def Dm (hr:RlOk rl cn) {c:Nat×Nat} (hb:bQ l) (h:gV rl l=⇑(c,r)):l=fB c++r/\c.1<rl.length/\c.2<rl.getD c.1 0:=by
 unfold gV at h;cases e:cR 0 (rl.length - 1) l with
 | none=>rw[e] at h; cases h
 | some x =>
   rw[e] at h;have h:(cR 0 (rl.getD x.1 0 - 1) x.2).map (λy=>((x.1,y.1),y.2))=⇑(c,r):=h;let#[h1,_,h2,_]:=jS hb (show _=⇑(x.1,x.2) from e);cases e2:cR 0 (rl.getD x.1 0 - 1) x.2 with
   | none=>rw[e2] at h; cases h
   | some y =>
     rw[e2] at h;cases h;let#[g1,_,g2,_]:=jS (λc hc=>hb c (by rw[h1]; simp [hc])) (show _=⇑(y.1,y.2) from e2);have hn:=hr.n1;have hx:x.1<rl.length:=by lia
     have:=hr.at hx;show#[?_,hx,by show y.1<rl.getD x.1 0; lia];rw[h1,g1];show _=(nb x.1++nb y.1)++y.2;rw[Jl]
def vH (xs:List (Nat×Nat)):((List.range xs.length).map λk=>fB (xs.getD k (0,0))).flatten=(xs.map fB).flatten:=by
 congr 1;refine Lz λk=>?_;rw[JC,JC];by_cases h:k<xs.length
 . rw[LD h,JA h];show ⇑(fB (xs.getD k (0,0)))=_;rw[JH,JA h];rfl
 . rw[Jz (by rw[JY]; lia),Jz ∅];rfl
def Ck (hr:RlOk rl cn) {ch:List (Nat×Nat)} (h:∀c∈ch,c.1<rl.length/\c.2<rl.getD c.1 0) (r:List Nat):i7 rl ch.length ((ch.map fB).flatten++r)=⇑(ch,r):=by
 have:=lH (f:=λ_ _ r=>gV rl r) (xs:=ch) (e:=λk=>fB (ch.getD k (0,0))) (λk x r hx=>by rw[JH,hx];exact Du hr (h x (J9 hx)) r) ch.length r (JG _)
 rw[Jh,vH] at this;exact this
def wx (hr:RlOk rl cn) {ch:List (Nat×Nat)} (hb:bQ l) (h:i7 rl n l=⇑(ch,r)):l=(ch.map fB).flatten++r/\ch.length=n/\∀c∈ch,c.1<rl.length/\c.2<rl.getD c.1 0:=by let#[h1,h2,h3]:=kr (0,0) (e:=λ_ _ c=>fB c) (I:=λ_ c=>c.1<rl.length/\c.2<rl.getD c.1 0) (λk acc r x r' hb _ _ hf=>Dm hr hb hf) n l ch r hb h;subst h1;rw[vH] at h2;show#[h2,rfl,λc hc=>?_];let#[k,hk]:=K0 hc;exact h3 k c hk
def vU {P:JM BTr->Prop} (h:∀v∈m.vs,∀o∈v,P o) (l k:Nat):∀o∈cP m l k,P o:=λo ho=>by
 unfold cP at ho;split at ho
 . rw[JH] at ho;cases e:m.vs[l]? with
   | none=>rw[e] at ho; cases ho
   | some v=>rw[e] at ho; exact h v (J9 e) o ho
 . cases ho
def Cn (hr:RlOk rl cn) {m0:Mk}(h0:∀v∈m0.vs,∀o∈v,cS o) (h:MFit rl cn m) (r:List Nat):gI rl cn m0 (mb m0 m++r)=⇑(m,r):=by
 have h3:=h.l3;unfold gI mb;rw[Jl,Jl,m9 _ h.l1 h3 (by rw[ej]; lia)];show((i7 rl m.ch.length ((m.ch.map fB).flatten++(((List.range m.ch.length).map (wB m0 m)).flatten++r))).bind _)=_;rw[Ck hr h.ix];show(ge cn m0 m.ch m.ch.length (((List.range m.ch.length).map (wB m0 m)).flatten++r)).map _=_;have:=lH (f:=λk _ r=>il (cP m0 k (kk m.ch k)) (cn (kk m.ch k)) r) (xs:=m.vs) (e:=wB m0 m) (λk v r hv=>by
   have hl:k<m.ch.length:=by rw[<- h.vl]; exact(JF.mp hv).1
   have hc:=JA hl;have e1:cn (kk m.ch k)=v.length:=by rw[h.cn k _ v hc hv];unfold kk;rw[JH,hc];rfl
   have e2:wB m0 m k=vb (cP m0 k (kk m.ch k)) v:=by unfold wB;rw[si hv];rfl
   rw[e1,e2];exact FU r (vU h0 _ _) (h.ok v (J9 hv))) m.ch.length r (by rw[h.vl]; exact JG _)
 unfold ge;rw[this,<- h.vl,Jh];rfl
def F0 (hr:RlOk rl cn) {m0:Mk}(h0:∀v∈m0.vs,∀o∈v,cp o) (hb:bQ l) (h:gI rl cn m0 l=⇑(m,r)):l=mb m0 m++r/\MFit rl cn m:=by
 unfold gI at h;cases e:cR 1 3 l with
 | none=>rw[e] at h; cases h
 | some x =>
   rw[e] at h;have h:(i7 rl x.1 x.2).bind (λch=>(ge cn m0 ch.1 ch.1.length ch.2).map λv=>((⟨ch.1,v.1⟩:Mk),v.2))=⇑(m,r):=h;let#[h1,h2,h3,_]:=jS hb (show _=⇑(x.1,x.2) from e);have hb2:bQ x.2:=λc hc=>hb c (by rw[h1]; simp [hc]);cases e2:i7 rl x.1 x.2 with
   | none=>rw[e2] at h; cases h
   | some y =>
     rw[e2] at h;have h:(ge cn m0 y.1 y.1.length y.2).map (λv=>((⟨y.1,v.1⟩:Mk),v.2))=⇑(m,r):=h;let#[g1,g2,g3]:=wx hr hb2 (show _=⇑(y.1,y.2) from e2);have hb3:bQ y.2:=λc hc=>hb2 c (by rw[g1]; simp [hc]);cases e3:ge cn m0 y.1 y.1.length y.2 with
     | none=>rw[e3] at h; cases h
     | some z =>
       rw[e3] at h;cases h;let#[k1,k2,k3]:=kr [] (e:=λk _ v=>vb (cP m0 k (kk y.1 k)) v) (I:=λk v=>v.length=cn (kk y.1 k)/\∀o∈v,cp o) (λk acc r x r' hb _ _ hf=>CJ hb (vU h0 _ _) hf) _ y.2 z.1 z.2 hb3 e3;show#[?_,?_]
       . show _=(nb y.1.length++(y.1.map fB).flatten++((List.range y.1.length).map (wB m0 #[y.1,z.1])).flatten)++z.2;rw[h1,g2,g1,k2,Jl,Jl];rw[show y.1.length=x.1 from g2];rfl
       . show#[by show 1<=y.1.length; lia,by show y.1.length<=3; lia,g3,k1,λj c v hc hv=>?_,λv hv o ho=>?_]
         . rw[(k3 j v hv).1];unfold kk;rw[JH,show y.1[j]?=⇑c from hc];rfl
         . let#[k,hk]:=K0 hv;exact(k3 k v hk).2 o ho
def vM (ms:List Mk) (k:Nat):dS (ms.take k) k=dS ms k:=by
 cases k with
 | zero=>rfl
 | succ k =>
   show(ms.take (k+1)).getD k cY=ms.getD k cY;rw[JH,JH,List.getElem?_take,JJ (KG k)]
variable {ms:List Mk}
def wV {P:JM BTr->Prop} (h:∀m∈ms,∀v∈m.vs,∀o∈v,P o) (k:Nat):∀v∈(dS ms k).vs,∀o∈v,P o:=by
 cases k with
 | zero=>exact λv hv=>by cases hv
 | succ k =>
   show ∀v∈(ms.getD k cY).vs,_;rw[JH];cases e:ms[k]? with
   | none=>exact λv hv=>by cases hv
   | some m=>exact h m (J9 e)
def E9 (hr:RlOk rl cn) (h:∀m∈ms,MFit rl cn m) (r:List Nat):gJ rl cn ms.length ((eZ ms ms.length).flatten++r)=⇑(ms,r):=by
 have:=lH (f:=λk acc r=>gI rl cn (dS acc k) r) (xs:=ms) (e:=λj=>mb (dS ms j) (ms.getD j cY)) (λk m r hm=>by rw[vM,JH,hm];exact Cn hr (wV (λm hm v hv o ho=>((h m hm).ok v hv o ho).1) k) (h m (J9 hm)) r) ms.length r (JG _)
 rw[Jh] at this;exact this
def Fw (hr:RlOk rl cn) (hb:bQ l) (h:gJ rl cn n l=⇑(ms,r)):l=(eZ ms n).flatten++r/\ms.length=n/\∀m∈ms,MFit rl cn m:=by
 let#[h1,h2,h3]:=kr cY (e:=λk acc m=>mb (dS acc k) m) (I:=λ_ m=>MFit rl cn m) (λk acc r x r' hb hl ha hf=>F0 hr (wV (λm hm v hv o ho=>by let#[j,hj]:=K0 hm;exact(ha j m hj).ok v hv o ho) k) hb hf) n l ms r hb h
 show#[?_,h1,λm hm=>?_]
 . rw[h2];congr 2;exact KU λk _=>by rw[vM]
 . let#[j,hj]:=K0 hm;exact h3 j m hj
def sR (hr:RlOk rl cn) (h:∀m∈ms,MFit rl cn m) (h1:1<=ms.length) (h2:ms.length<=200):gY rl cn (c6 ms)=⇑ms:=by unfold gY;rw[JJ (uy ms)];unfold c6;rw[m9 _ h1 h2 (by rw[ej]; lia)];show((gJ rl cn ms.length (eZ ms ms.length).flatten).bind _)=_;have:=E9 hr h [];rw[Jq] at this;rw[this];rfl
end Dc
namespace Ex
open PySem PySem.W PyProof.Rows PySem.Spec
variable {rest:List MT}
section
variable {prog:Program} {w:World} {A:Around} {E:MT->MU->Prop} {R:Result->MU->Prop} {h:Heap} {g:Array GenState} {d:Drawn} {t:Nat} {os:OsState}
 {nm q:Str} {C N:MV} {bs bm:List MT} {hdct:Bool} {sn:List Str} {sub:List MT} {ab:Bool} {col:JM Bool} {dd:JM MV} {k0 k1 k2 k3 k5:JM MT}
structure VE (C:Addr) (bm:List Value):Prop where
 b:(Value.ref C::bm).contains (.type "ValueError")=true
 e:(Value.ref C::bm).contains (.type "BaseException")=true
 a:(Value.ref C::bm).contains (.type "AttributeError")=false
 n:(Value.ref C::bm).contains (.type "NameError")=false
def BF {M:Model} (hC:h.get? C=⇑(excClassObj nm q C N bs bm hdct sn sub ab col dd k0 k1 k2 k3 k5 "ValueError.__new__")) (V:VE C bm) {Q:Unit->MU->Prop}
   (hq:Q () #[h,g,d,t,os]):wpAny M A (checkBuiltinCall "ValueError.__new__" #[↥C::rest,[]]) Q E #[h,g,d,t,os]:=by
 have F:=KZ;have v:=V.b;have st:=F.noStar;simp only[checkBuiltinCall,F.newKind,F.newSplit,F.newRow]
 repeat (first|refine KM hC ?_|(refine Ky hC ?_; rw[v])|refine wpAny_staticBase_exc hC ?_|refine wpAny_madeBy_exc hC ?_|simp only[bne_self_eq_false,Bool.false_eq_true,if_false] | wp_step)
 exact hq
abbrev jq (h:Heap) (C:MV) (rest:List MT):Heap:=(h.push { cls:=.type "tuple",data:=.seq rest.toArray }).push { cls:=↥C,data:=.fields (List.toArray [↥h.objs.size,.none,.none,.none,.bool false,.none]) }
def heapX_keeps :∀b o,h.get? b=⇑o->(jq h C rest).get? b=⇑o:=λ_ _ e=>JD _ (JD _ e)
def heapX_at :(jq h C rest).get? (h.objs.size+1)=some { cls:=↥C,data:=.fields (List.toArray [↥h.objs.size,.none,.none,.none,.bool false,.none]) }:=by unfold jq; heap_get
def C3 (hC:h.get? C=⇑(excClassObj nm q C N bs bm hdct sn sub ab col dd k0 k1 k2 k3 k5 "ValueError.__new__")) (V:VE C bm) (hz:rest.length<=sizeLine)
   (hq:R (.ok (.ret ↥(h.objs.size+1))) #[jq h C rest,g,d,t,os]):codeAny 0x9 A (.builtin "ValueError.__new__" #[↥C::rest,[]]) R #[h,g,d,t,os]:=by
 have F:=KZ;have en:=F.ends;have vb:=V.b;have va:=V.a;have vn:=V.n;refine codeAny_builtinAt F.entry ?_;unfold Builtin.«BaseException.__new__»;refine PySem.wpAt_bind ?_;show PySem.wpAt _ _ _ (stack >>= _) _ _ _;refine PySem.wpAt_bind (PySem.wpAt_stack λp below=>PySem.wpAt_of_wpAny ?_)
 wp_walk
 refine PySem.wpAt_of_wpAny ?_;rw[F.owner]
 repeat (first|with_reducible refine wpAny_madeHere_exc F.canon hC ?_|with_reducible refine KM hC ?_|(with_reducible refine Ky hC ?_; first|rw[vb] | rw[va] | rw[vn])|wp_step)
 show R _ _;rw[KJ];exact hq
def FA (hC:h.get? C=⇑(excClassObj nm q C N bs bm hdct sn sub ab col dd k0 k1 k2 k3 k5 "ValueError.__new__")) (V:VE C bm) (hz:rest.length<=sizeLine) {fI:MT}
   (hi:Looks 0x9 h (typeLookup ↥C "__init__") ⇑fI) (hb:Looks 0x9 h (bindSpecial fI ↥(h.objs.size+1)) (fI,[↥(h.objs.size+1)])) {Q:Fin->MU->Prop}
   (hq:wpAny 0x9 A (call fI (↥(h.objs.size+1)::rest)) (λr s'=>r=.none/\Q (.done (.ret ↥(h.objs.size+1))) s') E #[jq h C rest,g,d,t,os]) :
   wpAny 0x9 A (Builtin.«type.__call__» #[↥C::rest,[]]) Q E #[h,g,d,t,os]:=by
 repeat (first|with_reducible refine KM hC ?_|with_reducible refine wpAny_madeBy_exc hC ?_|wp_step)
 refine codeAny_call_builtin_code (Code.quiet_builtin _ KZ.quiet) (BF hC V ?_);refine C3 hC V hz ?_;show wpAny _ _ _ _ _ _;have hC1:=heapX_keeps (C:=C) (rest:=rest) _ _ hC;have hg:=heapX_at (h:=h) (C:=C) (rest:=rest);have hcC:(Value.ref C::bm).contains ↥C=true:=by simp
 have i1:=hi.keeps (heapX_keeps (C:=C) (rest:=rest));have b1:=hb.keeps (heapX_keeps (C:=C) (rest:=rest));unfold isInstance
 repeat (first|with_reducible refine KM hg ?_|(with_reducible refine Ky hC1 ?_; rw[hcC])|wp_step)
 show wpAny _ _ (typeLookup ↥C _) _ _ _;refine i1.at ?_;refine KY (J8 ?_);refine b1.at ?_;refine J8 (Ki hq (λr s' hr=>?_) λ_ _ x=>x);let#[rfl,hQ]:=hr
 wp_walk
 exact hQ
def x_call (hC:h.get? C=⇑(excClassObj nm q C N bs bm hdct sn sub ab col dd k0 k1 k2 k3 k5 "ValueError.__new__")) (V:VE C bm) (hz:rest.length<=sizeLine) {fI:MT}
   (hi:Looks 0x9 h (typeLookup ↥C "__init__") ⇑fI) (hb:Looks 0x9 h (bindSpecial fI ↥(h.objs.size+1)) (fI,[↥(h.objs.size+1)])) {Q:MT->MU->Prop}
   (hq:wpAny 0x9 (A.under (.builtin "type.__call__" #[↥C::rest,[]])) (call fI (↥(h.objs.size+1)::rest)) (λr s'=>r=.none/\Q ↥(h.objs.size+1) s') E #[jq h C rest,g,d,t,os]) :
   wpAny 0x9 A (call ↥C rest) Q E #[h,g,d,t,os]:=by
 have f1:=tc_lookup;have f2:=tc_bind ↥C;have hT:(⟨h,g,d,t,os⟩:MU).TypeIs ↥C "type":=#[_,hC,rfl]
 refine MR (codeAny_of_tree ?_);show wpAny _ _ (callAny ↥C _) _ _ _
 repeat (any_goals (first|assumption|with_reducible refine KM hC ?_|wp_step))
 show#[rfl,?_];exact codeAny_call_builtin_at (Code.quiet_builtin _ 0xA) entry_typeCall (wpAny_check_type_call_sub hC (FA hC V hz hi hb hq))
def x_raise {M:Model} {env:Env} {s:MU} {x:Sem MT} {Q:Flow->MU->Prop} (hh:A.handled=none)
   (hx:wpAny M A x (λv s₁=>∃e o vs,v=↥e/\s₁.heap.get? C=⇑(excClassObj nm q C N bs bm hdct sn sub ab col dd k0 k1 k2 k3 k5 "ValueError.__new__")/\VE C bm /\
     s₁.heap.get? e=⇑o/\o.cls=↥C/\o.data=.fields vs/\vs[1]?=some .none/\E ↥e s₁) E s):wpAny M A (raiseStmt env ⇑x none) Q E s:=by
 unfold raiseStmt;refine J8 (Ki hx (λv s₁ h₁=>?_) λ_ _ x=>x);let#[e,o,vs,rfl,hC,V,he,hc,hd,h1,hE]:=h₁;let#[hp,g,d,tk,os]:=s₁;let#[oc,od,oda,osl]:=o;dsimp only at hc hd;subst hc hd;have ve:=V.e
 repeat (first|with_reducible refine KM he ?_|with_reducible refine KM hC ?_|(with_reducible refine Ky hC ?_; rw[ve])|wp_step)
 rw[h1];refine JO ?_;rw[JI #[]];exact JO (wpAny_raiseNew_none hh hE)
end
end Ex
namespace Ex
open PySem PySem.W PyProof.Rows PySem.Spec L2
structure Mvd (S:List Addr) (D:Addr->Prop) (h h':Heap):Prop where
 keep:∀b o,¬ D b->b ∉ S->h.get? b=⇑o->h'.get? b=⇑o
 slot:∀b o,¬ D b->h.get? b=⇑o->∃sl,h'.get? b=some { o with slots:=sl }
def Mvd.trans {S:List MV} {D:MV->Prop} {h h1 h2:Heap} (a:Mvd S D h h1) (b:Mvd S D h1 h2):Mvd S D h h2 :=
 #[λc o n m e=>b.keep c o n m (a.keep c o n m e),λc o n e=>by let#[sl,e1]:=a.slot c o n e;let#[sl2,e2]:=b.slot c _ n e1;show#[sl2,e2]]
def Mvd.mono {S:List MV} {D D':MV->Prop} {h h':Heap} (a:Mvd S D h h') (hd:∀b,D b->D' b):Mvd S D' h h':=#[λb o n=>a.keep b o λz=>n (hd b z),λb o n=>a.slot b o λz=>n (hd b z)]
abbrev Tr (h:Heap) (e:MV) (cls:MT) (d:JM MV) (T:MV) (fl:MT):Prop :=
 ∃o vs oT ts,h.get? e=⇑o/\o.cls=cls/\o.dict=d/\o.data=.fields vs/\vs[1]?=⇑↥T/\T≠e/\h.get? T=⇑oT/\oT.data=.fields ts/\ts[3]?=⇑fl
abbrev Raw (h:Heap) (e:MV) (cls:MT) (d:JM MV):Prop:=∃o vs,h.get? e=⇑o/\o.cls=cls/\o.dict=d/\o.data=.fields vs/\vs[1]?=some .none
section
variable {M:Model} {A:Around} {E:MT->MU->Prop} {s:MU} {base:Heap} {env:Env} {outer:List Env} {L e:MV} {cls:MT} {d:JM MV}
def yV (f:Array MT->Array MT) {o:Obj} {vs:Array MT} (hd:o.data=.fields vs):Obj.mapFields f o={ o with data:=.fields (f vs) }:=by let#[c,d,dt,sl]:=o;dsimp only at hd;subst hd;rfl
def tQ {oe:Obj} {vs:Array MT} {head:MT} {hadNext:Bool} {Q:Unit->MU->Prop} (hfr:A.frames=⇑(env::outer)) (hl:s.heap.FunFrames base (env::outer)) (hf:env.frame=⇑L)
   (he:s.heap.get? e=⇑oe) (hd:oe.data=.fields vs) (hsz:1<vs.size)
   (h:∀h' T,s.heap.get? T=none->Mvd (cJ (env::outer)) (λb=>b=e) s.heap h'->Tr h' e oe.cls oe.dict T (rawInt L)->Q () { s with heap:=h' }) :
   wpAny M A (do let a <- frameOf env; let pl <- entryPlaceOf L hadNext; let b <- EntryCells.newEntry head a .none (rawInt L) .none pl; setField ↥e 1 b) Q E s:=by
 have hene:e ∉ cJ (env::outer):=λhm=>by let#[_,o,ho,hnf]:=hl.mem hm;rw[he] at ho; cases ho; exact hnf vs hd
 refine J8 (wpAny_frameOf_fun hfr hl hf λh₁ hs₁=>?_);refine J8 (wpAny_entryPlaceOf λpl hpl=>?_);unfold EntryCells.newEntry newFields;refine J8 (KL ?_ (hpl.sizeOk5 _ _ _ _ _));have he₁:h₁.get? e=⇑oe:=(hs₁.2.1 e hene)\he;have he₂:=JD (h:=h₁) { cls:=.type "traceback",dict:=none,data:=.fields ([head,↥L,.none,rawInt L,.none]++(if pl.isEmpty then List.replicate 6 Value.none else pl)).toArray } he₁;refine L9 he₂ hd hsz (h _ h₁.objs.size (Kg (by rw[hs₁.1]; exact JG _)) ?_ ?_)
 . show#[λb o hb hm hbo=>?_,λb o hb hbo=>?_]
   . rw[K4 _ _ (Ne.symm hb)];exact JD _ ((hs₁.2.1 b hm)\hbo)
   . let#[sl,e1]:=hs₁.2.2 b o hbo;show#[sl,?_];rw[K4 _ _ (Ne.symm hb)];exact JD _ e1
 . have hTe:h₁.objs.size≠e:=Kl (JU he₁);have hd₃:=Obj.data_mapFields hd (·.setIfInBounds 1 (Value.ref h₁.objs.size));have he₃:=KQ (Obj.mapFields (·.setIfInBounds 1 (Value.ref h₁.objs.size))) he₂ (Obj.isFreed_of_fields hd₃);have hT₃:=(K4 (h₁.push { cls:=.type "traceback",dict:=none,data:=.fields ([head,↥L,.none,rawInt L,.none]++(if pl.isEmpty then List.replicate 6 Value.none else pl)).toArray })
     (Obj.mapFields (·.setIfInBounds 1 (Value.ref h₁.objs.size))) (Ne.symm hTe))\(Ja h₁ rfl)
   show#[16,he₃,?_,?_,hd₃,by simp [hsz],hTe,hT₃,rfl,by first|(simp; done)|(rcases hpl with rfl|⟨_,_,_,_,_,_,_,rfl⟩ <;> simp)]
   . rw[yV _ hd]
   . rw[yV _ hd]
def x_mark {T:MV} {fl:MT} {fr:JM MV} {Q:Unit->MU->Prop} (ht:Tr s.heap e cls d T fl)
   (h:∀h',Mvd [] (λb=>b=T) s.heap h'->Tr h' e cls d T (fr.elim .none λf=>rawInt f)->Q () { s with heap:=h' }):wpAny M A (setFlight ↥e fr) Q E s:=by
 let#[o,vs,oT,ts,he,hc,hdc,hd,h1,hTe,hT,hdT,h3]:=ht;have hsz:3<ts.size:=(KH.mp h3).1;unfold setFlight;refine J8 (Jt he hd h1 ?_);rw[JJ (show(Value.ref T != Value.none)=true from by simp)];have other:∀(g:Obj->Obj) (b:MV),b≠T->(s.heap.update T g).get? b=s.heap.get? b:=λg b hb=>K4 _ _ (Ne.symm hb);refine L9 hT hdT hsz (h _ #[λb o hb _ hbo=>(other _ b hb)\hbo,λb o hb hbo=>#[o.slots,(other _ b hb)\hbo]] ?_);show#[o,vs,4,(other _ e (Ne.symm hTe))\he,hc,hdc,hd,h1,hTe,KQ _ hT (Obj.isFreed_of_fields (Obj.data_mapFields hdT _)),Obj.data_mapFields hdT _,by simp [hsz]]
def x_noteR {Q:Unit->MU->Prop} (hfr:A.frames=⇑(env::outer)) (hl:s.heap.FunFrames base (env::outer)) (hf:env.frame=⇑L) (hr:Raw s.heap e cls d)
   (h:∀h' T,s.heap.get? T=none->Mvd (cJ (env::outer)) (λb=>b=e) s.heap h'->Tr h' e cls d T (rawInt L)->Q () { s with heap:=h' }):wpAny M A (noteFrame ↥e env) Q E s:=by
 let#[o,vs,he,rfl,rfl,hd,h1]:=hr;unfold noteFrame;simp only[hf];refine J8 (Jt he hd h1 ?_);rw[JI #[]];exact tQ hfr hl hf he hd (KH.mp h1).1 h
def x_noteT {T0:MV} {Q:Unit->MU->Prop} (hfr:A.frames=⇑(env::outer)) (hl:s.heap.FunFrames base (env::outer)) (hf:env.frame=⇑L) (hr:Tr s.heap e cls d T0 .none)
   (h:∀h' T,s.heap.get? T=none->Mvd (cJ (env::outer)) (λb=>b=e\/b=T0) s.heap h'->Tr h' e cls d T (rawInt L)->Q () { s with heap:=h' }):wpAny M A (noteFrame ↥e env) Q E s:=by
 let#[o,vs,oT,ts,he,rfl,rfl,hd,h1,hTe,hT,hdT,h3]:=hr;unfold noteFrame;simp only[hf];refine J8 (Jt he hd h1 ?_);rw[JJ (show(Value.ref T0 != Value.none)=true from by simp)];refine J8 (Jt hT hdT h3 ?_);rw[JI (show ¬ ((Value.none==rawInt L)=true) from by simp [rawInt])];refine J8 (L9 hT hdT (KH.mp h3).1 ?_);have other:∀(g:Obj->Obj) (b:MV),b≠T0->(s.heap.update T0 g).get? b=s.heap.get? b:=λg b hb=>K4 _ _ (Ne.symm hb);have noT:∀b o,s.heap.get? b=⇑o->(∀vs,o.data≠.fields vs)->b≠T0:=λb o hb hnf q=>by rw[q,hT] at hb; cases hb; exact hnf ts hdT
 have m1:Mvd (cJ (env::outer)) (λb=>b=e\/b=T0) s.heap (s.heap.update T0 (Obj.mapFields (·.setIfInBounds 3 Value.none))) :=
   #[λb o hb _ hbo=>(other _ b λz=>hb (.inr z))\hbo,λb o hb hbo=>#[o.slots,(other _ b λz=>hb (.inr z))\hbo]]
 have hl2:(s.heap.update T0 (Obj.mapFields (·.setIfInBounds 3 Value.none))).FunFrames base (env::outer):=hl.of_keeps λb o hb hnf=>#[o,(other _ b (noT b o hb hnf))\hb,rfl]
 refine tQ (s:={ s with heap:=s.heap.update T0 (Obj.mapFields (·.setIfInBounds 3 Value.none)) }) hfr hl2 hf ((other _ e (Ne.symm hTe))\he) hd (KH.mp h1).1 λh' T hT' m2 tr=>h h' T ?_ (m1\(m2.mono λb z=>.inl z)) tr;by_cases z:T=T0
 . subst z;exfalso;have q:=KQ (Obj.mapFields (·.setIfInBounds 3 Value.none)) hT (Obj.isFreed_of_fields (Obj.data_mapFields hdT _));dsimp only at hT';rw[q] at hT'; cases hT'
 . dsimp only at hT';rwa [other _ T z] at hT'
end
end Ex
namespace L2
open PySem PySem.Spec PyProof.Rows
abbrev XO (e C:MV) (d:JM MV):HO:=.ext λh=>∃t,h.get? e=some { cls:=↥C,dict:=d,data:=.fields (List.toArray [↥t,.none,.none,.none,.bool false,.none]) }
abbrev wg (K:MW) (C:MV):Prop:=∃(nm q:Str) (N:MV) (bs bm:List MT) (sn:List Str) (sub:List MT) (ab:Bool) (col:JM Bool) (dd:JM MV) (k0 k1 k2 k3 k5:JM MT),
 K.lookup C=⇑(excClassObj nm q C N bs bm true sn sub ab col dd k0 k1 k2 k3 k5 "ValueError.__new__")/\Ex.VE C bm
abbrev ao (P:Program) (w:World):g7:=λouter H s E e s'=>∃ea cls d T H',e=↥ea/\s'.os=s.os/\AllBare s'.gens/\Un (cJ outer) [] H H' s.heap s'.heap/\bU P w H' s'.heap /\
 s.heap.get? ea=none/\H' ea=none/\s.heap.get? T=none/\H' T=none/\Ex.Tr s'.heap ea cls d T .none/\E cls d H'
section
variable {P:Program} {w:World} {H H':Hp} {h h':Heap} {a:MV} {o:HO} {fs S:List MV} {D:MV->Prop} {H0:Hp} {h0:Heap}
def cM.some_at (x:cM P w H h a o):∃u,h.get? a=⇑u:=by
 cases o with
 | lst xs=>let#[_,_,_,_,e]:=x; show#[_,e]
 | tup xs=>let#[_,_,_,ob,e,_]:=x; show#[_,e]
 | dK kvs=>let#[_,_,_,_,o,_,_,e,_]:=x; show#[_,e]
 | dT kvs=>let#[_,_,_,_,o,_,_,e,_]:=x; show#[_,e]
 | set S n=>let#[o,_,_,_,e,_]:=x; show#[_,e]
 | ins C dx fs=>let#[_,_,_,e,_]:=x; show#[_,e]
 | own y=>exact x
 | xd fs=>obtain⟨_,⟨_,_,_,e,_⟩,_⟩:=x; show#[_,e]
 | rng lo hi=>let#[_,_,_,e]:=x; show#[_,e]
 | frz ob u=>let#[e,_]:=x; show#[_,e]
 | tbl ps=>show#[_,(show h.get? a=⇑_ from x)]
 | met f y=>show#[_,(show h.get? a=⇑_ from x)]
 | ext φ=>exact x.2.1
def bU.none_of (x:bU P w H h) (e:h.get? a=none):H a=none:=by
 cases q:H a with
 | none=>rfl
 | some u=>let#[v,z]:=(x a u q).some_at; rw[e] at z; cases z
def Un.moved (u:Un fs [] H0 H h0 h) (m:Ex.Mvd S D h h') (hD:∀b,D b->h0.get? b=none) (hS:∀b∈S,b∈fs\/h0.get? b=none):Un fs [] H0 H h0 h' where
 keep:=λb o q n hb hx=>m.keep b o (λz=>by rw[hD b z] at q; cases q) (λz=>(hS b z).elim hb λr=>by rw[r] at q; cases q) (u.keep b o q n hb hx)
 slot:=λb o q n hb hx=>by let#[sl,e]:=u.slot b o q n hb hx;let#[sl2,e2]:=m.slot b _ (λz=>by rw[hD b z] at q; cases q) e;show#[sl2,e2]
 free:=u.free
 there:=λb o q hx=>by let#[o',e]:=u.there b o q hx;let#[sl2,e2]:=m.slot b _ (λz=>by rw[hD b z] at q; cases q) e;show#[_,e2]
 tups:=u.tups
 frzs:=u.frzs
 tbls:=u.tbls
def bU.moved (x:bU P w H h) (m:Ex.Mvd S D h h') (hD:∀b,D b->H b=none) (hS:∀b∈S,H b=none):bU P w H h':=λa o e =>
 (x a o e).stay (λb u hb q=>by
   have t:∃z,H b=⇑z:=by
     rcases hb with rfl|hb
     . show#[_,e]
     . show#[_,hb]
   let#[z,t]:=t;exact m.keep b u (λy=>by rw[hD b y] at t; cases t) (λy=>by rw[hS b y] at t; cases t) q) (λ_ q=>q) λ_ _ q=>q
def Un.ers {φ:Heap->Prop} (u:Un fs [] H0 H h0 h) (e:H a=⇑(.ext φ)):Un fs [] H0 (ers a H) h0 h where
 keep:=u.keep
 slot:=u.slot
 free:=λb o q n hx=>by
   have r:=u.free b o q n hx;unfold L2.ers;split
   . rfl
   . exact r
 there:=u.there
 tups:=λb xs q=>by have r:=u.tups b xs q;rw[aU (λz=>by rw[z,e] at r; cases r)]; exact r
 frzs:=λb o xs q=>by have r:=u.frzs b o xs q;rw[aU (λz=>by rw[z,e] at r; cases r)]; exact r
 tbls:=λb ps q=>by let#[m,r]:=u.tbls b ps q;show#[m,by rw[aU (λz=>by rw[z,e] at r; cases r)]; exact r]
def bU.ers {φ:Heap->Prop} (x:bU P w H h) (e:H a=⇑(.ext φ)):bU P w (ers a H) h:=λb o q=>by
 have hb:b≠a:=λz=>by subst z; unfold L2.ers at q; rw[JJ rfl] at q; cases q
 rw[aU hb] at q;exact(x b o q).stay (λc u _ r=>r) (λc r=>by rw[aU (λz=>by rw[z,e] at r; cases r)]; exact r) λc xs r=>by rw[aU (λz=>by rw[z,e] at r; cases r)]; exact r
end
def oQ {S S':List MV} {D:MV->Prop} {h h':Heap} (m:Ex.Mvd S D h h') (hs:∀b∈S,b∈S'):Ex.Mvd S' D h h':=#[λb o n z=>m.keep b o n λq=>z (hs b q),m.slot]
section
variable {P:Program} {w:World} {K:MW} {mg:Str->JM MT} {base:Heap} {N:List Str} {qual:Str} {sc:Scope} {f:MV} {cd:MT} {A:Around} {outer:List Env} {s0 s:MU} {H0 H:Hp} {E:XK}
 {pins:List (MV×Obj)} {σ:St} {cls:MT} {d:JM MV} {e:MV}
def wK {h2:Heap} {T:MV} {D:MV->Prop} {S:List MV} (I:Inv 0x8 pins σ H s) {H1:Hp} (hn:s0.heap.get? e=none) (hT:s.heap.get? T=none)
   (u:Un (cJ outer) [] H0 H1 s0.heap s.heap) (hok:bU P w H1 s.heap) (he1:H1 e=none) (hS:S=cJ (bJ (ao P w) P w K mg base N qual sc f cd A outer s0 H0 E).stack) (hS1:∀b∈S,H1 b=none)
   (m:Ex.Mvd S D s.heap h2) (hD0:∀b,D b->s0.heap.get? b=none) (hD1:∀b,D b->H1 b=none)
   (t:Ex.Tr h2 e cls d T .none) (hE:E cls d H1):ao P w outer H0 s0 E ↥e { s with heap:=h2 }:=by
 have fresh:∀b,s.heap.get? b=none->s0.heap.get? b=none:=λb q=>by
   cases r:s0.heap.get? b with
   | none=>rfl
   | some o=>let#[o',z]:=u.there b o r 0xB; rw[q] at z; cases z
 show#[e,cls,d,T,H1,rfl,I.os,I.bare,u.moved m hD0 λb hb=>?_,hok.moved m hD1 hS1,hn,he1,fresh T hT,hok.none_of hT,t,hE];subst hS;rcases JS.mp (I.stkSub b hb) with z|z
 . exact .inr (by rw[z]; exact Kg I.ok.above)
 . exact .inl z
def IX (I:Inv 0x8 pins σ H s) {φ:Heap->Prop} (he:H e=⇑(.ext φ)) (hn:s0.heap.get? e=none) (hr:Ex.Raw s.heap e cls d) (hE:E cls d (ers e H)) :
   (bJ (ao P w) P w K mg base N qual sc f cd A outer s0 H0 E).xe ↥e s:=by
 show wpAny _ _ (leaving _ _) _ _ s;unfold leaving;refine J8 (Ex.x_noteR I.ok.frames I.stack rfl hr λh1 T hT m1 t1=>?_);refine Ex.x_mark (fr:=none) t1 λh2 m2 t2=>?_;have hfr:=I.stkFree;have fresh:∀b,s.heap.get? b=none->s0.heap.get? b=none:=λb q=>by
   cases r:s0.heap.get? b with
   | none=>rfl
   | some o=>let#[o',z]:=I.base.there b o r (λq=>nomatch q); rw[q] at z; cases z
 refine wK (s:=s) (D:=λb=>b=e\/b=T) (S:=cJ (bJ (ao P w) P w K mg base N qual sc f cd A outer s0 H0 E).stack) I hn hT (Un.ers I.base he) (bU.ers I.hok he) (JJ rfl) rfl (λb hb=>?_) ((m1.mono λb z=>.inl z)\(oQ (m2.mono λb z=>.inr z) λb z=>nomatch z)) ?_ ?_ t2 hE
 . unfold L2.ers; split; rfl; exact hfr b hb
 . rintro b (rfl|rfl); exact hn; exact fresh _ hT
 . rintro b (rfl|rfl)
   . exact JJ rfl
   . exact(bU.ers I.hok he).none_of hT
def dg:fi (ao P w) 0x8 E:=by
 intro pins σ H s ev s' I c;let#[e,cls,d,T0,H1,rfl,os,bare,un,hok,hn,he1,hT0,hT1,tr,hE]:=c;have I1:Inv 0x8 pins σ H1 s':=I.call' os un hok bare λb z=>nomatch z;show wpAny _ _ (leaving _ _) _ _ s';unfold leaving;refine J8 (Ex.x_noteT I1.ok.frames I1.stack rfl tr λh1 T hT m1 t1=>?_);refine Ex.x_mark (fr:=none) t1 λh2 m2 t2=>?_;have fr0:∀b,s.heap.get? b=none->s0.heap.get? b=none:=λb q=>by
   cases r:s0.heap.get? b with
   | none=>rfl
   | some o=>let#[o',z]:=I.base.there b o r (λq=>nomatch q); rw[q] at z; cases z
 have fr1:∀b,s'.heap.get? b=none->s0.heap.get? b=none:=λb q=>by
   cases r:s0.heap.get? b with
   | none=>rfl
   | some o=>let#[o',z]:=I1.base.there b o r (λq=>nomatch q); rw[q] at z; cases z
 refine wK (s:=s') (D:=λb=>(b=e\/b=T0)\/b=T) (S:=cJ (bJ (ao P w) P w K mg base N qual sc f cd A outer s0 H0 E).stack) I1 (fr0 _ hn) hT I1.base I1.hok he1 rfl I1.stkFree ((m1.mono λb z=>.inl z)\(oQ (m2.mono λb z=>.inr z) λb z=>nomatch z)) ?_ ?_ t2 hE
 . rintro b ((rfl|rfl)|rfl)
   . exact fr0 _ hn
   . exact fr0 _ hT0
   . exact fr1 _ hT
 . rintro b ((rfl|rfl)|rfl)
   . exact he1
   . exact hT1
   . exact I1.hok.none_of hT
def qi:PassesOwn (model P w) (bJ (ao P w) P w K mg base N qual sc f cd A outer s0 H0 E).A (bJ (ao P w) P w K mg base N qual sc f cd A outer s0 H0 E).env (bJ (ao P w) P w K mg base N qual sc f cd A outer s0 H0 E).xe:=PassesOwn.leaving
end
abbrev qy (X:Cx) (EX:XK):Prop:=∀(pins:List (MV×Obj)) (σ:St) (H:Hp) (s:MU) (e:MV) (φ:Heap->Prop) (cls:MT) (d:JM MV),
 Inv X pins σ H s->H e=⇑(.ext φ)->X.s₀.heap.get? e=none->Ex.Raw s.heap e cls d->EX cls d (ers e H)->X.xe ↥e s
def gM {P:Program} {w:World} {K:MW} {mg:Str->JM MT} {base:Heap} {N:List Str} {qual:Str} {sc:Scope} {f:MV} {cd:MT} {A:Around} {outer:List Env} {s0:MU} {H0:Hp} {E:XK} :
   qy 0x8 E:=λ_ _ _ _ _ _ _ _ I he hn hr hE=>IX I he hn hr hE
def FH {P:Program} {w:World} {H:Hp} {h:Heap} {e C:MV} {d:JM MV} {t:MV} (q:h.get? e=some { cls:=↥C,dict:=d,data:=.fields (List.toArray [↥t,.none,.none,.none,.bool false,.none]) }):cM P w H h e (XO e C d) :=
 #[#[t,q],#[_,q],λh1 h2 z155_ k=>by let#[u,z]:=z155_; show#[u,k _ z]]
end L2
namespace Ex
open PySem PySem.W PyProof.Rows PySem.Spec
section
variable {prog:Program} {w:World} {A:Around} {E:MT->MU->Prop} {R:Result->MU->Prop} {h:Heap} {g:Array GenState} {d:Drawn} {t:Nat} {os:OsState}
 {nm q:Str} {C N:MV} {bs bm:List MT} {hdct:Bool} {sn:List Str} {sub:List MT} {ab:Bool} {col:JM Bool} {dd:JM MV} {k0 k1 k2 k3 k5:JM MT}
def x_init0 {e t0:MV} {Q:MT->MU->Prop} (hC:h.get? C=⇑(excClassObj nm q C N bs bm hdct sn sub ab col dd k0 k1 k2 k3 k5 "ValueError.__new__")) (V:VE C bm)
   (he:h.get? e=some { cls:=↥C,data:=.fields (List.toArray [↥t0,.none,.none,.none,.bool false,.none]) })
   (hq:∀h' t',(∀b o,b≠e->h.get? b=⇑o->h'.get? b=⇑o)->h'.get? e=some { cls:=↥C,data:=.fields (List.toArray [↥t',.none,.none,.none,.bool false,.none]) }->Q .none #[h',g,d,t,os]) :
   wpAny 0x9 A (call (.builtin "ValueError.__init__") [↥e]) Q E #[h,g,d,t,os]:=by
 have F:=KZ;have vb:=V.b;have st:=F.noStar;refine MR (codeAny_call_builtin F.init.plain F.initEntry ?_);simp only[checkBuiltinCall,F.initKind,F.initSplit,F.initRow]
 repeat (first|with_reducible refine KM he ?_|with_reducible refine KM hC ?_|(with_reducible refine Ky hC ?_; rw[vb])|wp_step)
 show Q _ _;refine hq _ h.objs.size (λb o hb hbo=>?_) ?_
 . rw[K4 _ _ (Ne.symm hb)];exact JD _ hbo
 . rw[KQ _ (JD _ he) rfl];rfl
end
end Ex
namespace L2
open PySem PySem.Spec PyProof.Rows
abbrev rj (C:MV) (EX:XK):TS:=λ_ _ H=>EX ↥C none H
section
variable {X:Cx} {C:MV} {EX:XK} {x:Str} {p pos cpos:Pos}
def DF (hX:wg X.K C) (hm:X.mg x=⇑↥C) (hi:PySem.W.findIn X.K ↥C "__init__"=⇑⇑(.builtin "ValueError.__init__")) (hk:PySem.W.keepIn X.K ↥C=true)
   (hc:X.calm=true) (hx:qy X EX) (hg:Gl X x:=by rfl) (hdb:(x==("__debug__":Str))=false:=by decide) :
   PS X (.Raise ⇑(.Call (.Name x p) [] [] cpos) none pos) (rj C EX):=by
 intro pins s σ H D I h;let#[nm,q,N,bs,bm,sn,sub,ab,col,dd,k0,k1,k2,k3,k5,hl,VV]:=hX;rw[arm_exec_Raise];refine J8 (LB (Ex.x_raise (C:=C) (nm:=nm) (q:=q) (N:=N) (bs:=bs) (bm:=bm) (hdct:=true) (sn:=sn) (sub:=sub) (ab:=ab) (col:=col) (dd:=dd) (k0:=k0) (k1:=k1) (k2:=k2) (k3:=k3) (k5:=k5) (I.ok.hd hc) ?_));show wpAny _ _ (eval (.Call (.Name x p) [] [] cpos) X.env >>= λv=>standAt pos >>= λ_=>pure v) _ _ _;refine J8 (Ki (Q:=λv s₁=>∃e o vs,v=↥e/\s₁.heap.get? C=⇑(excClassObj nm q C N bs bm true sn sub ab col dd k0 k1 k2 k3 k5 "ValueError.__new__")/\Ex.VE C bm /\
     s₁.heap.get? e=⇑o/\o.cls=↥C/\o.data=.fields vs/\vs[1]?=some .none/\X.xe ↥e s₁) ?_ (λv s3 h3=>J8 (LB (JO h3))) λ_ _ z=>z)
 refine Kz (oZ I hg hm ?_ hdb);refine PySem.W.callWith_K0 I.kIn hk ?_;let#[hp,g,dr,tk,os]:=s;refine Ex.x_call (fI:=.builtin "ValueError.__init__") (rest:=[]) (I.kIn _ _ hl) VV #[] (PySem.W.looks_findIn I.kIn hi) (PySem.W.Looks.of_pure (KZ.init.bind _)) ?_;have hC2:=Ex.heapX_keeps (C:=C) (rest:=[]) _ _ (I.kIn _ _ hl);refine Ex.x_init0 hC2 VV Ex.heapX_at λh' t' hk' he'=>#[rfl,?_]
 have ne:∀b o,hp.get? b=⇑o->b≠hp.objs.size+1:=λb o z=>Jn (Lx (JU z));have I2:Inv X pins σ (upd H (hp.objs.size+1) (XO (hp.objs.size+1) C none)) ⟨h',g,dr,tk,os⟩ :=
   I.laid (h':=h') (t':=tk) (λb u z=>hk' b u (ne b u z) (Ex.heapX_keeps b u z)) (Kf _) (FH he')
 have eH:ers (hp.objs.size+1) (upd H (hp.objs.size+1) (XO (hp.objs.size+1) C none))=H:=by
   funext b;unfold L2.ers upd;by_cases z:b=hp.objs.size+1
   . rw[JJ z,z]; exact(I.hok.fresh (Kf _)).symm
   . rw[JI z,JI z]
 show#[17,I2.kIn _ _ hl,VV,he',15,hx pins σ _ #[h',g,dr,tk,os] (hp.objs.size+1) _ ↥C none I2 aF (Kg (Jo I.sz (Kf _))) #[4,he',31] (by rw[eH]; exact h)]
end
end L2
namespace Ex
open PySem PySem.W PyProof.Rows PySem.Spec
abbrev veTail:List MT->Bool
 | .ref _::r=>veTail r
 | l=>l==[.type "ValueError",.type "Exception",.type "BaseException",.type "object"]
def uZ {p:List MT->Prop} (h0:p [.type "ValueError",.type "Exception",.type "BaseException",.type "object"]) (h1:∀a r,p r->p (↥a::r)):∀{l:List MT},veTail l=true->p l
 | [],e=>by cases e
 | c::r,e=>by
   cases c with
   | ref a=>exact h1 a r (uZ h0 h1 e)
   | _=>rw[show _::r=_ from beq_iff_eq.mp e]; exact h0
def nS {l:List MT} (h:veTail l=true) {X:String} {b:Bool} (hb:([.type "ValueError",.type "Exception",.type "BaseException",.type "object"]:List MT).contains (.type X)=b):l.contains (.type X)=b :=
 uZ (p:=λl=>l.contains (.type X)=b) hb (λa r z=>by rw[List.contains_cons,z]; rfl) h
def VE.of {C:MV} {bm:List MT} (h:veTail bm=true):VE C bm:=by have h':veTail (↥C::bm)=true:=h;show#[nS h' 0xA,nS h' 0xA,nS h' 0xA,nS h' 0xA]
end Ex
namespace L2
open PySem PySem.Spec PyProof.Rows
structure XClsOk (K:W.Frag) (mg:Str->Option Value) (name:Str) (C:Addr):Prop where
 g:mg name=⇑↥C
 obj:∃(nm q:Str) (N:Addr) (bs bm:List Value) (sn:List Str) (sub:List Value) (ab:Bool) (col:Option Bool) (dd:Option Addr) (k0 k1 k2 k3 k5:Option Value),
   K.lookup C=⇑(excClassObj nm q C N bs bm true sn sub ab col dd k0 k1 k2 k3 k5 "ValueError.__new__")/\Ex.veTail bm=true
 kp:PySem.W.keepIn K ↥C=true
 sa:PySem.W.findIn K ↥C "__setattr__"=⇑⇑(.builtin "object.__setattr__")
 ga:PySem.W.findIn K ↥C "__getattribute__"=⇑⇑(.builtin "BaseException.__getattribute__")
 gt:PySem.W.findIn K ↥C "__getattr__"=⇑none
 cl:PySem.W.findIn K ↥C "__class__"=⇑⇑(.builtin "object.__class__")
 sg:PySem.W.specialIn K (.builtin "object.__class__") "__get__"=⇑⇑(.builtin "getset_descriptor.__get__")
 tk:PySem.W.takesIn K (.builtin "object.__class__")=⇑true
def XClsOk.cls {K:MW} {mg:Str->JM MT} {name:Str} {C:MV} (c:XClsOk K mg name C):wg K C:=by let#[nm,q,N,bs,bm,sn,sub,ab,col,dd,k0,k1,k2,k3,k5,l,v]:=c.obj;show#[nm,q,N,bs,bm,sn,sub,ab,col,dd,k0,k1,k2,k3,k5,l,Ex.VE.of v]
section
variable {P:Program} {w:World} {K:MW} {mg:Str->JM MT} {base:Heap}
def Fun.okE {x qual:Str} {st:Stmt} {f:MV} {fd:FuncData} {N ps:List Str} {k:Nat} {sp:Sp} (F:Fun K x qual st f fd) (S:FnScope N ps (ai st)) (len:∀vs H Q E,sp vs H Q E->vs.length=ps.length)
   (hbody:∀(cdv:MT) (A:Around) (outer:List Env) (s:MU) (H:Hp) (vs:List V) (Q:VK) (E:XK),Room k (A.deeper (envOfC qual (ai st) s.heap.objs.size f cdv))->sp vs H Q E ->
     ∃t,dn (bJ (ao P w) P w K mg base N qual (ai st) f cdv A outer s H E) (eG st) t/\t { nx:=λ_ H'=>Q .non H',rt:=Q } (iU N vs) H):FnOk P w K mg base (ao P w) (k+1) f fd ps sp:=by
 let#[oc,od,kV,doc,pm,an,cdv,ct,osl,rfl,lk,hcd]:=F.ex;exact xB lk hcd S len λA outer s H vs Q E hr hsp=>hbody cdv A outer s H vs Q E hr hsp
end
section
variable {X:Cx} {k:Nat} {f C:MV} {fd:FuncData} {ps:List Str} {sp:Sp} {x qual:Str} {st:Stmt} {p pos cpos:Pos} {e:Expr} {es:List Expr} {t:TA} {E:XK}
def mj (D:DefOk X.K X.mg x st ps f fd) (G:FnOk X.prog X.w X.K X.mg X.base (ao X.prog X.w) k f fd ps sp) (hr:Room k X.A) (hx:fi (ao X.prog X.w) X E) (ha:PA X (e::es) t) (hg:Gl X x:=by rfl)
   (hdb:(x==("__debug__":Str))=false:=by decide) (he:starEach (e::es) X.env=(false,eval e X.env)::starEach es X.env:=by rfl) (hpl:(backTo pos (starEach es X.env)).any (·.1)=false:=by rfl) :
   PE X (.Call (.Name x p) (e::es) [] pos) (qj sp [] E t):=xF G hr hg D.g D.F.kp D.b .nil hx ha hdb he hpl
def gf (c:XClsOk X.K X.mg x C) (hi:PySem.W.findIn X.K ↥C "__init__"=⇑⇑(.builtin "ValueError.__init__")) (hc:X.calm=true) (hx:qy X E) (hg:Gl X x:=by rfl)
   (hdb:(x==("__debug__":Str))=false:=by decide):PS X (.Raise ⇑(.Call (.Name x p) [] [] cpos) none pos) (rj C E):=DF c.cls c.g hi c.kp hc hx hg hdb
end
def zA {K:MW} {mg:Str->JM MT} {h:Heap} {name:Str} {C N:MV} {nm q:Str} {bs bm:List MT} {sn:List Str} {sub:List MT} {ab:Bool} {col:JM Bool} {dd:JM MV} {k0 k1 k2 k3 k5:JM MT} (X:K.In h) (G:h.Ns mainGlobals mg)
   (a:PySem.W.nsIn K mainGlobals name=⇑⇑↥C) (l:K.lookup C=⇑(excClassObj nm q C N bs bm true sn sub ab col dd k0 k1 k2 k3 k5 "ValueError.__new__")) (v:Ex.veTail bm=true) (kp:PySem.W.keepIn K ↥C=true)
   (sa:PySem.W.findIn K ↥C "__setattr__"=⇑⇑(.builtin "object.__setattr__")) (ga:PySem.W.findIn K ↥C "__getattribute__"=⇑⇑(.builtin "BaseException.__getattribute__")) (gt:PySem.W.findIn K ↥C "__getattr__"=⇑none)
   (cl:PySem.W.findIn K ↥C "__class__"=⇑⇑(.builtin "object.__class__")) (sg:PySem.W.specialIn K (.builtin "object.__class__") "__get__"=⇑⇑(.builtin "getset_descriptor.__get__")) (tk:PySem.W.takesIn K (.builtin "object.__class__")=⇑true):XClsOk K mg name C :=
 #[PySem.W.mg_of X G a,#[nm,q,N,bs,bm,sn,sub,ab,col,dd,k0,k1,k2,k3,k5,l,v],kp,sa,ga,gt,cl,sg,tk]
abbrev noX:XK:=λ_ _ _=>False
def pZ {P:Program} {w:World} {X:Cx}:fi (ao P w) X noX:=by rintro pins σ H s e s' I ⟨ea,cls,d,T,H',_,_,_,_,_,_,_,_,_,_,h⟩;exact h.elim
end L2
namespace Sk
open PySem PySem.Spec PyProof.Rows
mutual
noncomputable def qW (w:World):PyData->Int
 | .int i=>hashInt i
 | .str x=>hashStr w x
 | .bool b=>hashInt (if b then 1 else 0)
 | .tuple ds=>reduceHash (Builtin.Tuple.tupleHashOf (zD w ds))
 | _=>0
noncomputable def zD (w:World):List PyData->List Int
 | []=>[]
 | d::ds=>qW w d::zD w ds
end
mutual
noncomputable def drw:PyData->Nat
 | .tuple ds=>yD ds+1
 | _=>1
noncomputable def yD:List PyData->Nat
 | []=>0
 | d::ds=>drw d+yD ds
end
end Sk
namespace L2
open PySem PySem.Spec PyProof.Rows
abbrev lS (K:MW):R2:=λx y H Q=>wc K x y H Q\/oM K x y H Q
def pW {X:Cx}:aN X (lS X.K):=jN.or iz
def iN {c A B:Prop} [Decidable c] (h:B) (hc:¬ c:=by decide +kernel):if c then A else B:=au hc h
def iP {c A B:Prop} [Decidable c] (h:A) (hc:c:=by decide +kernel):if c then A else B:=az hc h
end L2
namespace Ex
open PySem PySem.Spec PyProof.Rows L2
section
variable {M:Model} {A:Around} {E:MT->MU->Prop} {s:MU} {base:Heap} {env:Env} {outer:List Env} {L e:MV} {cls:MT} {d:JM MV}
def note_same {x:MT} {env env':Env} (h:env.frame=env'.frame):noteFrame x env=noteFrame x env':=by unfold noteFrame PySem.frameOf;rw[h]
def x_noteA {T0:MV} {fl:MT} {Q:Unit->MU->Prop} (hfr:A.frames=⇑(env::outer)) (hl:s.heap.FunFrames base (env::outer)) (hf:env.frame=⇑L) (hr:Tr s.heap e cls d T0 fl)
   (h:∀h' T,(s.heap.get? T=none\/T=T0)->Mvd (cJ (env::outer)) (λb=>b=e\/b=T0) s.heap h'->Tr h' e cls d T (rawInt L)->Q () { s with heap:=h' }):wpAny M A (noteFrame ↥e env) Q E s:=by
 by_cases hz:(fl==rawInt L)=true
 . let#[o,vs,oT,ts,he,hc,hdc,hd,h1,hTe,hT,hdT,h3]:=id hr;unfold noteFrame;simp only[hf];refine J8 (Jt he hd h1 ?_);rw[JJ (show(Value.ref T0 != Value.none)=true from by simp)];refine J8 (Jt hT hdT h3 ?_);rw[JJ hz];have e2:fl=rawInt L:=eq_of_beq hz;exact JO (h s.heap T0 (.inr rfl) #[λ_ _ _ _ z=>z,λb o _ z=>#[o.slots,z]] (e2 ▸ hr))
 . let#[o,vs,oT,ts,he,rfl,rfl,hd,h1,hTe,hT,hdT,h3]:=hr;unfold noteFrame;simp only[hf];refine J8 (Jt he hd h1 ?_);rw[JJ (show(Value.ref T0 != Value.none)=true from by simp)];refine J8 (Jt hT hdT h3 ?_);rw[JI hz];refine J8 (L9 hT hdT (KH.mp h3).1 ?_);have other:∀(g:Obj->Obj) (b:MV),b≠T0->(s.heap.update T0 g).get? b=s.heap.get? b:=λg b hb=>K4 _ _ (Ne.symm hb);have noT:∀b o,s.heap.get? b=⇑o->(∀vs,o.data≠.fields vs)->b≠T0:=λb o hb hnf q=>by rw[q,hT] at hb; cases hb; exact hnf ts hdT
   have m1:Mvd (cJ (env::outer)) (λb=>b=e\/b=T0) s.heap (s.heap.update T0 (Obj.mapFields (·.setIfInBounds 3 Value.none))) :=
     #[λb o hb _ hbo=>(other _ b λz=>hb (.inr z))\hbo,λb o hb hbo=>#[o.slots,(other _ b λz=>hb (.inr z))\hbo]]
   have hl2:(s.heap.update T0 (Obj.mapFields (·.setIfInBounds 3 Value.none))).FunFrames base (env::outer):=hl.of_keeps λb o hb hnf=>#[o,(other _ b (noT b o hb hnf))\hb,rfl]
   refine tQ (s:={ s with heap:=s.heap.update T0 (Obj.mapFields (·.setIfInBounds 3 Value.none)) }) hfr hl2 hf ((other _ e (Ne.symm hTe))\he) hd (KH.mp h1).1 λh' T hT' m2 tr=>h h' T (.inl ?_) (m1\(m2.mono λb z=>.inl z)) tr;by_cases z:T=T0
   . subst z;exfalso;have q:=KQ (Obj.mapFields (·.setIfInBounds 3 Value.none)) hT (Obj.isFreed_of_fields (Obj.data_mapFields hdT _));dsimp only at hT';rw[q] at hT'; cases hT'
   . dsimp only at hT';rwa [other _ T z] at hT'
def FunFrames.moved {S:List MV} {D:MV->Prop} {h h' base:Heap} (m:Mvd S D h h'):∀{l:List Env},h.FunFrames base l->(∀b∈cJ l,¬ D b)->h'.FunFrames base l
 | [],_,_=>trivial
 | env::rest,⟨hk,⟨L,o,hf,hn,ho,hd⟩,hr⟩,hD=>by
   have hL:L∈cJ (env::rest):=by unfold cJ;rw[Kv,hf];exact Je
   let#[sl,e]:=m.slot L o (hD L hL) ho;show#[hk,#[L,_,hf,hn,e,hd],FunFrames.moved m hr λb hb=>hD b ?_];unfold cJ at hb ⊢;rw[Kv,hf];exact Jc _ hb
end
end Ex
namespace L2
open PySem PySem.Spec PyProof.Rows
abbrev pi (X:Cx) (N':List Str) (scope:Scope) (C:MV) (s:MU) (H:Hp) (fp:List MV) (EX:XK) (x:MT) (s':MU):Prop :=
 ∃pins σ H1 s1,Inv (cB X N' scope C s H fp) pins σ H1 s1/\ao X.prog X.w X.stack H1 s1 EX x s'
noncomputable abbrev ql (X:Cx) (N':List Str) (scope:Scope) (C:MV) (s:MU) (H:Hp) (fp:List MV) (EX:XK):Cx:=(cB X N' scope C s H fp).wish (pi X N' scope C s H fp EX)
variable {N':List Str} {scope:Scope}
def pj {X:Cx} {C:MV} {s:MU} {H:Hp} {fp:List MV} {EX:XK}:fi (ao X.prog X.w) (ql X N' scope C s H fp EX) EX:=λpins σ H1 s1 e s' I c=>#[pins,σ,H1,s1,I.unwish,c]
variable {elt target iter:Expr} {pos:Pos}
def IW {prog:Program} {w:World} {A:Around} {R:Result->MU->Prop} {s:MU} {ifs:List Expr} {it acc:MT} {env:Env} (Ei:MT->MU->Prop)
   (hE:∀x s',Ei x s'->notedBy 0x9 A env (λx s'=>R (.error x) s') x s') (I:Nat->MU->Prop)
   (turn:∀n s,I n s->wpAny 0x9 A (pyNext it) (λr s₁=>match r with
     | none=>R (.ok .next) s₁
     | some v=>wpAny 0x9 A (letOwnedTupleGo target it v) (λ_ s₂=>wpAny 0x9 A (assign target env v) (λ_ s₃ =>
         wpAny 0x9 A (forIn ifs true λc r=>if r=true then do let ok <- isTrue c env (eval c env); pure (ForInStep.yield ok) else pure (ForInStep.yield r)) (λok s₄ =>
           if ok=true then wpAny 0x9 A (eval elt env) (λx s₅ =>
             wpAny 0x9 A (call (.builtin "list.append") [acc,x]) (λ_ s₆=>∃m,m<n/\I m s₆) (λ_ _=>False) s₅) Ei s₄
           else ∃m,m<n/\I m s₄) (λ_ _=>False) s₃) (λ_ _=>False) s₂) (λ_ _=>False) s₁) (λ_ _=>False) s)
   (n:Nat) (h:I n s):codeAny 0x9 A (.compLoop (.ListComp elt [#[target,iter,ifs,(0)]] scope pos) 0 it acc env) R s:=by
 refine codeAny_loop rfl I (λn s hI=>?_) n h;show wpAny _ A ((compTurn (.ListComp elt [#[target,iter,ifs,(0)]] scope pos) 0 it acc env).onRaise (λx=>do noteFrame x env; theTreesLotGoes x)) _ _ s;refine wpAny_noted ?_;rw[compTurn_list];refine J8 (LB (J8 (gW (turn n s hI) λr s₁ h₁=>?_)));cases r with
 | none=>exact JO h₁
 | some v =>
   refine J8 (gW h₁ λ_ s₂ h₂=>J8 (gW h₂ λ_ s₃ h₃=>J8 (gW h₃ λok s₄ h₄=>?_)));cases ok with
   | false=>exact JO #[rfl,h₄]
   | true =>
     exact J8 (J8 (Ki h₄ (λx s₅ h₅=>J8 (gW h₅ λ_ s₆ h₆=>JO (JO #[rfl,h₆]))) hE))
def D9 {X:Cx} {EX:XK} {use:JM (MT->Sem Unit)} {Q':MT->MU->Prop} {Q:VK} {pins:List (MV×Obj)} {s:MU} {σ:St} {H:Hp} {ifs:List Expr} {wi:TI} {g:TG} {tif:TT} {te:TE} {js:List (JM Nat)} (hok:jJ scope X.env.scope N' X.N js=true) (hc:X.calm=true)
   (hi:PI X target iter wi) (ho:jO js g) (hg:∀C s H fp,PG (cB X N' scope C s H fp) target g) (hif:∀C s H fp,j7 (cB X N' scope C s H fp) ifs tif) (he:∀C s H fp,PE (ql X N' scope C s H fp EX) elt te)
   (hs:∀x,foldedSetIterable iter X.env x=pure x) (I:Inv X pins σ H s) (h:mF wi g tif te js σ H Q)
   (hfin:∀(s2:MU) (H2:Hp) (fp:List MV) (C:MV),Inv X pins σ H2 s2->(∀b∈fp,eS X pins H2 b)->s2.heap.objs.size<=C->∀(σ':St) (H':Hp) (s':MU),Inv (cB X N' scope C s2 H2 fp) [] σ' H' s'->Q ↥s2.heap.objs.size H' ->
     compPost 0x7 X.A X.xe use Q' ↥s2.heap.objs.size C (.ok .next) s')
   (herr:∀(s2:MU) (H2:Hp) (fp:List MV) (C:MV),Inv X pins σ H2 s2->(∀b∈fp,eS X pins H2 b)->s2.heap.objs.size<=C->∀(x:MT) (s':MU),pi X N' scope C s2 H2 fp EX x s' ->
     notedBy 0x7 X.A (compEnvC scope (dL scope.names X.env.cells []) C X.env) (λx s'=>compPost 0x7 X.A X.xe use Q' ↥s2.heap.objs.size C (.error x) s') x s') :
   wpAny 0x7 X.A (comprehension (.ListComp elt [#[target,iter,ifs,(0)]] scope pos) scope X.env (firstIterPos [#[target,iter,ifs,(0)]] pos) (newList []) false (eval iter X.env) use) Q' X.xe s:=by
 have O:=ud hok;have hfr:∀y∈scope.names,y.2=.free->∃c,X.env.cells.lookup y.1=⇑c:=λy hy e=>I.ok.has y.1 (O.free y hy e);refine M8 (use:=use) rfl hs (ui hfr) O.kind O.names (aQ (hi pins s σ H _ I h) λv s1 h1=>aQ h1 λitv s2 h2=>?_);let#[it,fp,tn,J,H2,e,I2,T,st2,f2,hq]:=h2;subst e;have hf0:H2 s2.heap.objs.size=none:=I2.hok.fresh (JG _);obtain⟨W,⟨m0,w0⟩,turn⟩:=hq _ hf0;refine KL (wpAny_newFunctionEnv O.nocell (by intro y hy; simp at hy) (λh₁ hns₁ hsb₁=>?_) O.kind);dsimp only at hns₁ hsb₁ ⊢;generalize hH2:s2.heap.push { cls:=.type "list",dict:=none,data:=.seq ([]:List MT).toArray }=B at hns₁ hsb₁ ⊢;have hC:B.objs.size=s2.heap.objs.size+1:=by rw[<- hH2,KJ]
 have hCle:s2.heap.objs.size<=B.objs.size:=by rw[hC]; exact Kf _
 have old:∀b o,s2.heap.get? b=⇑o->h₁.get? b=⇑o:=λb o e=>hsb₁.extBut b o (by rw[hC]; exact Jn (Lx (JU e))) (JD _ (hH2 ▸ JD _ e));have hDC:s2.heap.objs.size≠B.objs.size:=by rw[hC]; exact Jn (KG _)
 have hacc:h₁.get? s2.heap.objs.size=some { cls:=.type "list",dict:=none,data:=.seq ([]:List MT).toArray }:=hsb₁.extBut _ _ hDC (JD _ (hH2 ▸ Ja _ rfl));have fpO:∀b∈fp,b<s2.heap.objs.size:=λb hb=>by let#[o,e,_]:=T.obj 0 _ st2 b hb;exact JU e
 have sub:∀x c,(dL scope.names X.env.cells []).lookup x=⇑c->X.env.cells.lookup x=⇑c:=nZ scope.names [] hfr (λx c e=>by cases e);have hasC:∀x,((relabel scope X.env).names.lookup x=some .cell\/(relabel scope X.env).names.lookup x=some .free)->∃c,(dL scope.names X.env.cells []).lookup x=⇑c:=λx hx =>
   Ks.mp (mm scope.names [] (rg (scope:=scope) (env:=X.env) scope.names x O.nocell hx))
 -- the block's context at its begin
 have IY:∀t,Inv (cB X N' scope B.objs.size s2 H2 fp) [] (cC js σ) (upd H2 s2.heap.objs.size (.lst [])) { s2 with heap:=h₁,toks:=t }:=by
   intro t;show#[#[I2.ok.mod,O.kind,I2.ok.glob,I2.ok.blt,hCle,λx y c h1 h2=>I2.ok.inj x y c (sub x c h1) (sub y c h2),λx hx=>hasC x hx,λx c h=>(by cases h),I2.ok.hd,I2.ok.frames,.inl rfl,λb hb=>#[Jn (Jb (fpO b hb) hCle),λx c e=>(f2 b hb).2.2.2.2.1 x c (sub x c e)],
     I2.bs,Jo I2.ok.bsz I2.sz,λb o e hb=>?_,λb hb z=>?_,I2.stack,I2.stkFree],rfl,I2.bare,Un.laid old (JG _) hf0,#[_,hns₁,λi x v e1 e2 e3=>?_],λx c e=>?_,?_,λx c e=>?_,λp hp=>absurd (show p∈([]:List (MV×Obj)) from hp) 0xB,?_,?_]
   . rcases (f2 b hb).2.2.2.1 with z|z
     . exact I2.ok.noex b o e z
     . exact absurd (Jb (Jb (JU e) I2.ok.bsz) z) (Ju _)
   . rcases JS.mp (I2.stkSub b z) with q|q
     . exact(f2 b hb).2.1 q
     . exact(f2 b hb).2.2.1 q
   . have e1:N'[i]?=⇑x:=e1;unfold cC at e2;rw[JC] at e2;cases q:js[i]? with
     | none=>rw[q] at e2; cases e2
     | some o =>
       rw[q] at e2;cases o with
       | none=>cases e2
       | some j =>
         have e2:(σ[j]?).join=⇑v:=↑e2
         have e2':σ[j]?=⇑⇑v:=by
           cases z:σ[j]? with
           | none=>rw[z] at e2; cases e2
           | some a=>rw[z] at e2; cases a with
             | none=>cases e2
             | some a=>cases e2; rfl
         let#[hN,hk,hsf]:=O.slots i j x q e1;let#[m,hn,hl]:=I2.loc;let#[u,r,l]:=hl j x v hN e2' (.inr hk);show#[u,r,?_];have hkX:X.env.kindOf x=some .cell\/X.env.kindOf x=some .free:=hk;rcases l with⟨k,_⟩|⟨k,c,hc',hcell⟩
         . rcases hkX with z|z
           . rw[k] at z; cases z
           . rw[k] at z; cases z
         . have hky:(relabel scope X.env).names.lookup x=some .cell\/(relabel scope X.env).names.lookup x=some .free:=tj (env:=X.env) scope.names x hsf;let#[c2,hc2]:=hasC x hky;have:c2=c:=by have:=sub x c2 hc2;rw[hc'] at this;exact(Option.some.inj this).symm
           subst this;let#[ob,ho,hd]:=hcell;exact .inr #[hky,c2,hc2,ob,old _ _ ho,hd]
   . let#[v,ob,ho,hd]:=I2.cell x c (sub x c e);show#[v,ob,old _ _ ho,hd]
   . show upd H2 s2.heap.objs.size (.lst []) B.objs.size=none;rw[aR (Ne.symm hDC)];exact I2.hok.fresh hCle
   . let#[v,ob,ho,hd]:=I2.cell x c (sub x c e);rw[aR (Jn (JU ho))];exact I2.freeC x c (sub x c e)
   . exact I2.hok.laid old (JG _) #[Jd _,[],(0),.nil,hacc]
   . unfold cC;rw[J7];exact O.len
 have hcl:(cC js σ).length=js.length:=by unfold cC; rw[J7]
 have fin:∀{σ':St} {H':Hp} {s':MU},Inv (cB X N' scope B.objs.size s2 H2 fp) [] σ' H' s'->Q ↥s2.heap.objs.size H'->compPost 0x7 X.A X.xe use Q' ↥s2.heap.objs.size B.objs.size (.ok .next) s' :=
   λ{σ' H' s'} J q=>hfin s2 H2 fp B.objs.size I2 f2 hCle σ' H' s' J q
 have loop:∀t,codeAny 0x7 X.A (.compLoop (.ListComp elt [⟨target,iter,ifs,0⟩] scope pos) 0 ↥it ↥s2.heap.objs.size (compEnvC scope (dL scope.names X.env.cells []) B.objs.size X.env))
     (compPost 0x7 X.A X.xe use Q' ↥s2.heap.objs.size B.objs.size) { s2 with heap:=h₁,toks:=t }:=by
   intro t;have stat:∀{H':Hp},(∀b∈fp,H' b=none)->∀b∈fp,eS (cB X N' scope B.objs.size s2 H2 fp) [] H' b:=λhn b hb =>
     #[hn b hb,Jn (Jb (fpO b hb) hCle),(IY t).ok.exfs b hb,.inl hb,λx c e=>((IY t).ok.exf b hb).2 x c e,λp hp=>absurd (show p∈([]:List (MV×Obj)) from hp) 0xB]
   refine IW (pi X N' scope B.objs.size s2 H2 fp EX) (λx s' z=>herr s2 H2 fp B.objs.size I2 f2 hCle x s' z) (λn s'=>∃i acc H',Inv (cB X N' scope B.objs.size s2 H2 fp) [] (cC js σ) H' s'/\tn i s'.heap/\(∀b∈fp,H' b=none)/\W i n acc H') ?_ m0
     #[(0),[],_,IY t,T.keep 0 _ _ st2 (λb _ o e=>old b o e),λb hb=>by rw[aR (Jn (fpO b hb))]; exact(f2 b hb).1,w0]
   rintro n s3 ⟨i,acc,H3,I3,st3,fr3,w3⟩;let#[hD,turn]:=turn i n acc H3 w3;rcases turn with⟨stop,qn⟩|⟨go,hlen,N,hN,step⟩
   . refine aQ (T.done (cB X N' scope B.objs.size s2 H2 fp) rfl rfl rfl hc i [] s3 (cC js σ) H3 (λ_ _=>False) I3 (stat fr3) st3 stop) λr s4 z206_=>?_;let#[hr,I4]:=z206_;subst hr;exact fin I4 qn
   . refine aQ (T.item (cB X N' scope B.objs.size s2 H2 fp) rfl rfl rfl hc i [] s3 (cC js σ) H3 (λ_ _=>False) I3 (stat fr3) st3 go) λr s4 z207_=>?_;let#[u,hr,h4]:=z207_;subst hr;refine aQ h4 λ_ s5 z208_=>?_;let#[x,H5,I5,r5,y5,st5,fr5]:=z208_;have I5':=I5.pinned (stat fr5) (T.obj _ _ st5);refine aQ (hg _ _ _ _ _ s5 (cC js σ) H5 x u _ I5' r5 (ho x (cC js σ) H5 _ hcl (step x H5 y5))) λ_ s6 z209_=>?_;let#[σ6,H6,I6,q6,hl6,hk6]:=z209_;refine aQ (hif _ _ _ _ _ s6 σ6 H6 _ I6 q6) λok s7 z210_=>?_;let#[H7,I7,q7]:=z210_;have again:∀{H8:Hp} {acc8:List V} {s8:MU},Inv (cB X N' scope B.objs.size s2 H2 fp) ([]++kP fp s5.heap) σ6 H8 s8->N acc8 H8 ->
         ∃m,m<n/\∃i acc H',Inv (cB X N' scope B.objs.size s2 H2 fp) [] (cC js σ) H' s8/\tn i s8.heap/\(∀b∈fp,H' b=none)/\W i m acc H':=by
       intro H8 acc8 s8 I8 n8;let#[m',hm,w8]:=hN acc8 H8 n8;show#[m',hm,i+1,acc8,H8,?_,T.keep _ _ _ st5 λb hb o e=>(I8.pin (b,o) (Jk _ (Jk _ (jx hb e)))).1,λb hb=>?_,w8]
       . refine Inv.weak I8.unpinned (by rw[hl6,hcl]) λk v e=>?_;have e':=e;unfold cC at e;rw[JC] at e;cases q:js[k]? with
         | none=>rw[q] at e; cases e
         | some o =>
           cases o with
           | none=>rw[q] at e; cases e
           | some j=>rw[hk6 k j q]; exact e'
       . let#[o,e,d]:=T.obj _ _ st5 b hb;exact(I8.pin (b,o) (Jk _ (Jk _ (jx hb e)))).2.1
     cases ok with
     | false=>exact again I7 q7
     | true =>
       refine aQ (he _ _ _ _ _ s7 σ6 H7 _ (I7.wish _) q7) λy s8 z211_=>?_;let#[yv,H8,I8,r8,hD8,q8]:=z211_;have I8:=I8.unwish;refine aQ (ja _ s8 σ6 H8 ↥s2.heap.objs.size [yv] ↥s2.heap.objs.size [y] (λ_ H9=>N (acc++[yv]) H9) I8 rfl (.cons r8 .nil) #[_,acc,yv,7,hD8,hlen,q8]) λ_ s9 z212_=>?_;let#[_,H9,I9,_,q9]:=z212_;exact again I9 q9
 exact codeAny_compStart_list (loop _) (T.self X.A 0 _ _ _ (T.keep 0 _ _ st2 (λb _ o e=>old b o e)) (loop _))
section
variable {P:Program} {w:World} {K:MW} {mg:Str->JM MT} {base:Heap} {N:List Str} {qual:Str} {sc:Scope} {f:MV} {cd:MT} {A:Around} {outer:List Env} {s0:MU} {H0:Hp} {E:XK}
def Eo {pins:List (MV×Obj)} {σ:St} {C:MV} {s2:MU} {H2:Hp} {fp:List MV} {use:JM (MT->Sem Unit)} {Q':MT->MU->Prop} {acc x:MT} {s':MU}
   (I2:Inv 0x8 pins σ H2 s2) (f2:∀b∈fp,eS 0x8 pins H2 b) (hCle:s2.heap.objs.size<=C)
   (h:pi 0x8 N' scope C s2 H2 fp E x s') :
   notedBy (model P w) (bJ (ao P w) P w K mg base N qual sc f cd A outer s0 H0 E).A (compEnvC scope (dL scope.names (bJ (ao P w) P w K mg base N qual sc f cd A outer s0 H0 E).env.cells []) C (bJ (ao P w) P w K mg base N qual sc f cd A outer s0 H0 E).env)
     (λx s'=>compPost (model P w) (bJ (ao P w) P w K mg base N qual sc f cd A outer s0 H0 E).A (bJ (ao P w) P w K mg base N qual sc f cd A outer s0 H0 E).xe use Q' acc C (.error x) s') x s':=by
 let#[pins',σ',H1,s1,J1,e,cls,d,T0,H',rfl,os,bare,un,hok,hn,he1,hT0,hT1,tr,hE]:=h;have J:Inv (cB 0x8 N' scope C s2 H2 fp) pins' σ' H' s':=J1.call' os un hok bare λb z=>nomatch z;have I1:Inv 0x8 pins σ H1 s1:=I2.call' (ch:=fp) J1.os J1.base J1.hok J1.bare λb hb=>#[(f2 b hb).2.2.2.1,(f2 b hb).2.1,(f2 b hb).2.2.2.2.1,(f2 b hb).2.2.2.2.2]
 have I3:Inv 0x8 pins σ H' s':=I2.call' (ch:=fp) J.os J.base J.hok J.bare λb hb=>#[(f2 b hb).2.2.2.1,(f2 b hb).2.1,(f2 b hb).2.2.2.2.1,(f2 b hb).2.2.2.2.2]
 have fr0:∀b,s1.heap.get? b=none->s0.heap.get? b=none:=λb q=>by
   cases r:s0.heap.get? b with
   | none=>rfl
   | some o=>let#[o',z]:=I1.base.there b o r (λq=>nomatch q); rw[q] at z; cases z
 have fr1:∀b,s'.heap.get? b=none->s0.heap.get? b=none:=λb q=>by
   cases r:s0.heap.get? b with
   | none=>rfl
   | some o=>let#[o',z]:=I3.base.there b o r (λq=>nomatch q); rw[q] at z; cases z
 have hC0:s0.heap.get? C=none:=Kg (Jo I2.sz hCle);let#[m0,hns,_]:=J.loc;let#[m1_,hns1,_]:=J1.loc;obtain⟨oC,hoC⟩:∃o,s1.heap.get? C=⇑o:=by let#[o,_,_,ho,_]:=hns1; show#[o,ho]
 have hCe:C≠e:=λz=>by rw[z,hn] at hoC; cases hoC
 have hCT:C≠T0:=λz=>by rw[z,hT0] at hoC; cases hoC
 have hCf:C ∉ cJ (bJ (ao P w) P w K mg base N qual sc f cd A outer s0 H0 E).stack:=λhb=>by let#[_,o,ho,_]:=I2.stack.mem hb;exact absurd (Jb (JU ho) hCle) (Ju _)
 unfold notedBy;rw[Ex.note_same (show(compEnvC scope (dL scope.names (bJ (ao P w) P w K mg base N qual sc f cd A outer s0 H0 E).env.cells []) C (bJ (ao P w) P w K mg base N qual sc f cd A outer s0 H0 E).env).frame=(bJ (ao P w) P w K mg base N qual sc f cd A outer s0 H0 E).env.frame from rfl)];refine Ex.x_noteT I3.ok.frames I3.stack rfl tr λh1 T hT m1 t1=>?_;have hCTn:T≠C:=λz=>by let#[o,_,_,ho,_]:=hns;rw[z] at hT;exact absurd (hT.symm\ho) 0xB
 show#[m0,?_,λh' hs cenv hcl=>?_]
 . let#[o,a2,a3,ho,rest]:=hns;show#[o,a2,a3,m1.keep C o (λz=>z.elim hCe hCT) hCf ho,rest]
 let#[o,vs,oT,ts,he,hc,hdc,hd,h1',hTe,hT',hdT,h3]:=t1;have t1':Ex.Tr h' e cls d T (rawInt (bJ (ao P w) P w K mg base N qual sc f cd A outer s0 H0 E).env.locals):=#[o,vs,oT,ts,(hs.2 e (Ne.symm hCe))\he,hc,hdc,hd,h1',hTe,(hs.2 T hCTn)\hT',hdT,h3]
 unfold PySem.passOn;refine J8 (Jt ((hs.2 e (Ne.symm hCe))\he) hd h1' ?_);rw[JI (show ¬ ((Value.ref T==Value.none)=true) from by simp)];have m12:Ex.Mvd (cJ (bJ (ao P w) P w K mg base N qual sc f cd A outer s0 H0 E).stack) (λb=>b=e\/b=T0\/b=C) s'.heap h':=(m1.mono λb z=>z.elim .inl λy=>.inr (.inl y))\#[λb o hb _ q=>(hs.2 b λz=>hb (.inr (.inr z)))\q,λb o hb q=>#[o.slots,(hs.2 b λz=>hb (.inr (.inr z)))\q]];refine J8 (Ex.x_mark (fr:=cenv.frame) t1' λh2 m2 t2=>wpAny_throw ?_);have m13:Ex.Mvd (cJ (bJ (ao P w) P w K mg base N qual sc f cd A outer s0 H0 E).stack) (λb=>b=e\/b=T0\/b=C\/b=T) s'.heap h2:=(m12.mono λb z=>z.elim .inl λy=>.inr (y.elim .inl λy=>.inr (.inl y)))\(oQ (m2.mono λb z=>.inr (.inr (.inr z))) λb z=>nomatch z);have nfr:∀b∈cJ (bJ (ao P w) P w K mg base N qual sc f cd A outer s0 H0 E).stack,¬ (b=e\/b=T0\/b=C\/b=T):=λb hb z=>by
   let#[_,ob,hob,_]:=I1.stack.mem hb;let#[_,ob3,hob3,_]:=I3.stack.mem hb;rcases z with rfl|rfl|rfl|rfl
   . rw[hn] at hob; cases hob
   . rw[hT0] at hob; cases hob
   . exact hCf hb
   . rw[hT] at hob3; cases hob3
 show wpAny _ _ (leaving _ _) _ _ _;unfold leaving;refine J8 (Ex.x_noteA (s:={ s' with heap:=h2 }) I3.ok.frames (Ex.FunFrames.moved m13 I3.stack nfr) rfl t2 λh3 T' hT2 m3 t3=>?_);refine Ex.x_mark (fr:=none) t3 λh4 m4 t4=>?_;have hH1:∀b,(b=e\/b=T0\/b=C\/b=T)->s0.heap.get? b=none/\H' b=none:=λb z=>by
   rcases z with rfl|rfl|rfl|rfl
   . show#[fr0 _ hn,he1]
   . show#[fr0 _ hT0,hT1]
   . show#[hC0,J.free]
   . show#[fr1 _ hT,I3.hok.none_of hT]
 have hT4:s0.heap.get? T'=none/\H' T'=none:=by
   rcases hT2 with z|z
   . by_cases y:T'=e\/T'=T0\/T'=C\/T'=T
     . exact hH1 T' y
     . have:s'.heap.get? T'=none:=by
         cases q:s'.heap.get? T' with
         | none=>rfl
         | some ob=>let#[sl,r]:=m13.slot T' ob y q; rw[r] at z; cases z
       show#[fr1 _ this,I3.hok.none_of this]
   . rw[z]; exact hH1 T (.inr (.inr (.inr rfl)))
 have mT:Ex.Mvd (cJ (bJ (ao P w) P w K mg base N qual sc f cd A outer s0 H0 E).stack) (λb=>(b=e\/b=T0\/b=C\/b=T)\/b=T') s'.heap h4 :=
   ((m13.mono λb z=>.inl z)\(m3.mono λb z=>.inl (z.elim .inl λy=>.inr (.inr (.inr y))))).trans (oQ (m4.mono λb z=>.inr z) λb z=>nomatch z)
 show#[e,cls,d,T',H',rfl,I3.os,I3.bare,I3.base.moved mT ?_ λb hb=>?_,I3.hok.moved mT ?_ I3.stkFree,fr0 _ hn,he1,hT4.1,hT4.2,t4,hE]
 . rintro b (z|rfl)
   . exact(hH1 b z).1
   . exact hT4.1
 . rcases JS.mp (I3.stkSub b hb) with z|z
   . exact .inr (by rw[z]; exact Kg I3.ok.above)
   . exact .inl z
 . rintro b (z|rfl)
   . exact(hH1 b z).2
   . exact hT4.2
def tm {ifs:List Expr} {wi:TI} {g:TG} {tif:TT} {te:TE} {js:List (JM Nat)} (hok:jJ scope (bJ (ao P w) P w K mg base N qual sc f cd A outer s0 H0 E).env.scope N' (bJ (ao P w) P w K mg base N qual sc f cd A outer s0 H0 E).N js=true) (hc:(bJ (ao P w) P w K mg base N qual sc f cd A outer s0 H0 E).calm=true)
   (hi:PI 0x8 target iter wi) (ho:jO js g) (hg:∀C s H fp,PG (cB 0x8 N' scope C s H fp) target g) (hif:∀C s H fp,j7 (cB 0x8 N' scope C s H fp) ifs tif) (he:∀C s H fp,PE (ql 0x8 N' scope C s H fp E) elt te)
   (hs:∀x,foldedSetIterable iter (bJ (ao P w) P w K mg base N qual sc f cd A outer s0 H0 E).env x=pure x:=by intro _; rfl):PE 0x8 (.ListComp elt [#[target,iter,ifs,(0)]] scope pos) (mF wi g tif te js):=by
 intro pins s σ H Q I h;rw[eval_ListComp];refine D9 (EX:=E) (use:=none) hok hc hi ho hg hif he hs I h (λs2 H2 fp C I2 f2 hCle σ' H' s' J q=>?_) (λs2 H2 fp C I2 f2 hCle x s' z=>Eo I2 f2 hCle z);let#[m,hn,_]:=J.loc;show#[m,hn,λh' hs'=>#[↥s2.heap.objs.size,H',?_,rfl,q]];refine I2.call' (s':={ s' with heap:=h' }) (ch:=fp) J.os (J.base.sameBut hs' hCle) (λb ob e=>?_) J.bare λb hb=>#[(f2 b hb).2.2.2.1,(f2 b hb).2.1,(f2 b hb).2.2.2.2.1,(f2 b hb).2.2.2.2.2]
 refine(J.hok b ob e).stay (λc w' hc q=>(hs'.2 c ?_)\q) (λ_ q=>q) λ_ _ q=>q;have hfree:H' C=none:=J.free;intro hcC;rw[hcC] at hc;rcases hc with z|z
 . rw[<- z,hfree] at e; cases e
 . rw[hfree] at z; cases z
end
end L2
namespace PySem.W
open PySem PySem.Calls PySem.NumText PyProof.Rows
namespace KIN
def Fs {M:Model} {A:Around} {E:MT->MU->Prop} {s:MU} {Q:MT->MU->Prop} {v:MT} {text:List Nat} {n:Int}
   (hs:(text.takeWhile (· != 0)).length<=640) (hr:(int_private% "readNumeral") 0 2 (text.takeWhile (· != 0))=(int_private% "Numeral.value") n)
   (ha:((text.takeWhile (· != 0)).length==text.length)=true) (h:Q (.int n s.toks) { s with toks:=s.toks+1 }) :
   wpAny M A ((int_private% "intFromText") v text 2) Q E s:=by
 let#[hp,g,d,tk,os]:=s
 repeat (any_goals (first
   | assumption
   | (with_reducible refine Lq (Jg hs) ?_)
   | (with_reducible refine Lq (Jg ha) ?_)
   | wp_step))
 all_goals (try rw[hr])
 all_goals (try dsimp only)
 repeat (any_goals (first
   | assumption
   | (with_reducible refine Lq (Jg hs) ?_)
   | (with_reducible refine Lq (Jg ha) ?_)
   | wp_step))
def Gz {x:PySem.Str} {u t:Tok} {n:Int} (hs:(numSeenOf x).length<=640) (hr:(int_private% "readNumeral") 0 2 (numSeenOf x)=(int_private% "Numeral.value") n) (ha:((numSeenOf x).length==(numTextOf x).length)=true):PySem.Gives (Builtin.«int.__new__» #[[.type "int",.str x u,.int 2 t],[]]) (.int n) :=
 .of_wp λM A E s Q h=>by
   let#[hp,g,d,tk,os]:=s;have f1:=F.conv_sub_int;have f2:=F.madeHere_int;have f3:=str_int;have f4:=str_idx;have f5:=str_trunc;have f6:typeOf (.str x u)=pure (.type "str"):=rfl;have hk:=Hid.mk (And.intro hs (And.intro hr ha));clear hs hr ha
   repeat (any_goals (first
     | assumption
     | ((with_reducible show wpAny _ _ ((int_private% "intFromText") _ _ _) _ _ _); refine Fs hk.out.1 hk.out.2.1 hk.out.2.2 ?_)
     | wp_step))
   all_goals first|show#[5,h]|skip
def call_text2 {prog:Program} {w:World} {A:Around} {E:MT->MU->Prop} {s:MU} {Q:MT->MU->Prop} {x:PySem.Str} {t u:Tok} {n:Int} (hs:(numSeenOf x).length<=640) (hr:(int_private% "readNumeral") 0 2 (numSeenOf x)=(int_private% "Numeral.value") n) (ha:((numSeenOf x).length==(numTextOf x).length)=true) (h:Q (.int n s.toks) { s with toks:=s.toks+1 }):wpAny 0x9 A (call (.type "int") [.str x t,.int 2 u]) Q E s :=
 callType_new F.called_int F.newNe_int (by kernel_rfl) (by kernel_rfl) (λobj=>by kernel_rfl) F.entry_int_new (Gz hs hr ha).meets (show(Made.int n).post _ s from#[rfl,h])
end KIN
end PySem.W
namespace L2
open PySem PySem.Spec PyProof.Rows
abbrev lQ:List (Str×Int):=[("000",0),("001",1),("010",2),("011",3),("100",4),("101",5),("110",6),("111",7),("0000",0),("0001",1),("0010",2),("0011",3),("0100",4),("0101",5),("0110",6),("0111",7),("1000",8),("1001",9),("1010",10),("1011",11),("1100",12),("1101",13),("1110",14),("1111",15)]
def yS {X:Cx}:ay X (.type "int") (λxs H Q=>∃x n,xs=[.str x,.int 2]/\(x,n)∈lQ/\Q (.int n) H):=by
 intro pins s σ H xs us Q I r h;let#[x,n,rfl,hm,q]:=h;obtain⟨u,w',rfl,⟨t,rfl⟩,⟨t2,rfl⟩⟩:=ng r;have key:∀p∈lQ,(PySem.numSeenOf p.1).length<=640/\(int_private% "readNumeral") 0 2 (PySem.numSeenOf p.1)=(int_private% "Numeral.value") p.2/\((PySem.numSeenOf p.1).length==(PySem.numTextOf p.1).length)=true:=by intro p hp;simp only[lQ,JS,LY,or_false] at hp;rcases hp with rfl|rfl|rfl|rfl|rfl|rfl|rfl|rfl|rfl|rfl|rfl|rfl|rfl|rfl|rfl|rfl|rfl|rfl|rfl|rfl|rfl|rfl|rfl|rfl <;> show#[by decide +kernel,by kernel_rfl,by decide +kernel]
 let#[h1,h2,h3]:=key _ hm;exact PySem.W.KIN.call_text2 h1 h2 h3 #[.int n,H,I.tok _,#[5],q]
section
variable {X:Cx} {x qual:Str} {C f:MV} {fd:FuncData} {st:Stmt} {ps:List Str} {sp:Sp} {k:Nat} {p pos:Pos} {e:Expr} {es:List Expr} {t:TA} {E:XK}
def Df (Cc:ClsOk X.K X.mg x C) (D:IniOk X.K C qual st ps f fd) (G:FnOk X.prog X.w X.K X.mg X.base (ao X.prog X.w) k f fd ps sp) (hr:Room (k+1) X.A) (hx:fi (ao X.prog X.w) X E) (ha:PA X (e::es) t) (hg:Gl X x:=by rfl)
   (hdb:(x==("__debug__":Str))=false:=by decide) (he:starEach (e::es) X.env=(false,eval e X.env)::starEach es X.env:=by rfl) (hpl:(backTo pos (starEach es X.env)).any (·.1)=false:=by rfl) :
   PE X (.Call (.Name x p) (e::es) [] pos) (qr C sp [] E t):=ym D.M G hr hg Cc.g D.b .nil hx ha hdb he hpl
end
section
variable {g:TG} {tif:TT} {te:TE} {js:List (JM Nat)} {σ:St} {H:Hp} {Q:VK}
def Gq {b1 b2:Bool} {K:MW} {l1 l2:MV} {xs ys:List V} {p:MV} (hn:xs.length<=1000000) (Pv:Nat->List V->Hp->Prop) (h0:Pv 0 [] (upd H p (.lst [])))
   (hl:∀i acc H2,i<=min xs.length ys.length->Pv i acc H2->H2 p=⇑(.lst acc)/\acc.length<=i/\fC b1 K H2 l1 xs/\fC b2 K H2 l2 ys)
   (hs:∀i x y acc H2 b,xs[i]?=⇑x->ys[i]?=⇑y->Pv i acc H2->H2 b=none->kA g tif te (cC js σ) p acc (Pv (i+1)) ↥b (upd H2 b (.tup [x,y]))) (hd:∀acc H2,Pv (min xs.length ys.length) acc H2->Q ↥p H2) :
   i' (jv K b1 b2 l1 l2) g tif te js σ Q p H:=by
 show#[λi m acc H=>m=min xs.length ys.length - i/\i<=min xs.length ys.length/\Pv i acc H,#[min xs.length ys.length,by simp,Jd _,h0],?_];rintro i m acc H2 ⟨rfl,hi,q⟩;let#[q1,q2,q3,q4]:=hl i acc H2 hi q;show#[q1,?_];by_cases hlt:i<min xs.length ys.length
 . have l1':i<xs.length:=by lia
   have l2':i<ys.length:=by lia
   refine .inr #[#[xs,ys,xs[i],ys[i],q3,q4,by simp [l1'],by simp [l2']],?_,Pv (i+1),λacc' H' p'=>#[min xs.length ys.length - (i+1),∅,rfl,hlt,p'],λx H' y=>?_]
   . have:(1000000:Nat)<sizeLine:=by decide
     lia
   . let#[b,rfl,hb,y]:=y;rw[y xs ys xs[i] ys[i] q3 q4 (by simp [l1']) (by simp [l2'])];exact hs i xs[i] ys[i] acc H2 b (by simp [l1']) (by simp [l2']) q hb
 . have e:i=min xs.length ys.length:=by lia
   subst e;refine .inl #[#[xs,ys,q3,q4,?_],hd acc H2 q];rcases Nat.le_total xs.length ys.length with h|h
   . left; rw[L6 h]; exact Jz (JG _)
   . right; rw[M9 h]; exact Jz (JG _)
end
inductive TyD (K:W.Frag) (H:Hp):V->Value->Prop where
 | of {x:V} {t:Value} (h:TyOf K H x t):TyD K H x t
 | tup {a:Addr} {xs:List V} (h:aJ K H a xs):TyD K H ↥a (.type "tuple")
 | lst {a:Addr} {xs:List V} (h:aH K H a xs):TyD K H ↥a (.type "list")
def iZ {X:Cx}:ay X (.builtin "isinstance") (λxs H Q=>∃x c t b,xs=[x,.ty c]/\TyD X.K H x t/\PySem.W.kitOne X.K t (.type c)=⇑b/\Q (.bl b) H):=by
 intro pins s σ H xs us Q I r h;let#[x,c,t,b,rfl,ty,hk,q]:=h;let#[u,w',rfl,rx,rc]:=ng r;cases (show w'=Value.type c from rc);cases ty with
 | of ty=>exact z7 I rx ty hk λtk=>#[.bl b,H,I.tok _,rfl,q]
 | @tup a xs h =>
   cases (show u=Value.ref a from rx);obtain⟨_,_,⟨o,h1,h2,_⟩,_⟩:=I.tuple h;exact PySem.W.kia_one PySem.W.kitx_tuple I.kIn #[o,h1,h2] hk (λz=>nomatch z) λtk=>#[.bl b,H,I.tok _,rfl,q]
 | @lst a xs h =>
   cases (show u=Value.ref a from rx);let#[_,_,pl,_]:=I.list h;let#[o,h1,h2,_]:=pl.isList;exact PySem.W.kia_one PySem.W.kitx_list I.kIn #[o,h1,h2] hk (λz=>nomatch z) λtk=>#[.bl b,H,I.tok _,rfl,q]
end L2
namespace K15
open PySem PySem.NumText L2 K11 K14 Gx
def qt (i j n:Nat):Builtin.Str.strSliceIndices ⇑(i:Int) ⇑(j:Int) 1 n=Builtin.Str.strSliceIndices ⇑((min i n:Nat):Int) ⇑((min j n:Nat):Int) 1 n:=by unfold Builtin.Str.strSliceIndices;simp only[show(1:Int) > 0 by decide,if_true];have h:∀k:Nat,(if(k:Int)<0 then(k:Int)+(n:Int) else(k:Int))=(k:Int):=λk=>JI ∅;rw[h,h,h,h];congr 1 <;> lia
def sl_mid (l:List Nat) {i j:Nat} (h:i<=j):Txt.slice (tx l) ⇑(i:Int) ⇑(j:Int)=tx ((l.take j).drop i):=by
 have e:Txt.slice (tx l) ⇑(i:Int) ⇑(j:Int)=Txt.slice (tx l) ⇑((min i l.length:Nat):Int) ⇑((min j l.length:Nat):Int):=by unfold Txt.slice;rw[dO,qt i j l.length]
 rw[e,Bx ∅ ∅ ∅];congr 1;rw[K3];by_cases hi:i<=l.length
 . rw[L6 hi];by_cases hj:j<=l.length
   . rw[L6 hj,List.drop_take];congr 1
     lia
   . rw[M9 ∅,LW (l:=l) ∅,LW];rw[Kt]; lia
 . rw[L7 (show l.length<=min i l.length by lia),L7 (by rw[Jp]; lia)];simp
def sl_from (l:List Nat) (i:Nat):Txt.slice (tx l) ⇑(i:Int) none=tx (l.drop i):=by
 have e:Txt.slice (tx l) ⇑(i:Int) none=Txt.slice (tx l) ⇑(i:Int) ⇑((max i l.length:Nat):Int):=by
   unfold Txt.slice;rw[StrLaws.sliceIdx_none_hi,dO,qt i l.length l.length,qt i (max i l.length) l.length];have:min (max i l.length) l.length=min l.length l.length:=by lia
   rw[this]
 rw[e,sl_mid l ∅,LW ∅]
end K15
namespace Dc
open PySem L2 Gx Bt Pk
abbrev jD (rl:List Nat) (cn:Nat->Nat) (l:List Nat):JM (List Mk×List Nat):=(cR 1 200 l).bind λx=>(gJ rl cn x.1 x.2).bind λy=>if y.2=[] then ⇑(y.1,[]) else none
def E3 (rl:List Nat) (cn:Nat->Nat) (l:List Nat):gY rl cn l=if bQ l then(jD rl cn l).map (·.1) else none:=by
 unfold gY jD;split
 . cases cR 1 200 l with
   | none=>rfl
   | some x =>
     show(gJ rl cn x.1 x.2).bind _=((gJ rl cn x.1 x.2).bind _).map _;cases gJ rl cn x.1 x.2 with
     | none=>rfl
     | some y =>
       show(if y.2=[] then ⇑y.1 else none)=(if y.2=[] then ⇑(y.1,[]) else none).map _;split <;> rfl
 . rfl
structure Rdr where
 x:Addr
 dx:Addr
 fl:Addr
 cl:Addr
abbrev rF (R:Rdr) (l:List Nat) (p:Nat):List (Str×V):=[("flows",↥R.fl),("called",↥R.cl),("bits",.str (tx l)),("at",.int p)]
abbrev b9 (fns:List F2.Fd):List Nat:=fns.map λf=>f.rs.length
abbrev cE (fns:List F2.Fd) (k:Nat):Nat:=(fns[k]?.map λf=>(F2.nms f).length).getD 0
structure RdAt (K:W.Frag) (CB CF:Addr) (H:Hp) (R:Rdr) (fns:List F2.Fd) (r:List Nat):Prop where
 ob:∃l p,H R.x=⇑(.ins CB R.dx (rF R l p))/\p<=l.length/\l.drop p=r/\l.length<=1000000
 fl:F2.FlowsAt K CF (ers R.x H) R.fl fns
 ls:aH K (ers R.x H) R.cl (fns.map λf=>V.str f.name)
 bt:bQ r
 ok:RlOk (b9 fns) (cE fns)
variable {l:List Nat}
def BS (n:Nat) (h:bQ l):bQ (l.drop n):=λx hx=>h x (List.mem_of_mem_drop hx)
abbrev jU (c:Nat) (r:List Nat):JM (List Nat×List Nat):=if c<=r.length then ⇑(r.take c,r.drop c) else none
variable {x:MV} {H:Hp}
def rq :ers x (ers x H)=ers x H:=by
 funext b;by_cases h:b=x
 . subst h; unfold ers; rw[JJ rfl,JJ rfl]
 . rw[aU h]
def Same.ers2 {H':Hp}(e:Same (ers x H) H'):Same (ers x H) (ers x H'):=by have:=L2.Same.ers (l:=x) e;rw[rq] at this;exact this
variable {c:Nat}
section
variable {K:MW} {CB CF:MV} {H H':Hp} {R:Rdr} {fns:List F2.Fd} {r r':List Nat}
def RdAt.grow (h:RdAt K CB CF H R fns r) (e:Same H H'):RdAt K CB CF H' R fns r :=
 let ⟨l,p,h1,h2,h3,h4⟩:=h.ob
 #[#[l,p,e _ _ h1,h2,h3,h4],h.fl*>(Same.ers e),Same.seq (Same.ers e) h.ls,h.bt,h.ok]
def RdAt.mv {p:Nat}(h:RdAt K CB CF H R fns (l.drop p)) (hp:p<=l.length) (hl:l.length<=1000000) (hc:c<=(l.drop p).length):RdAt K CB CF (upd H R.x (.ins CB R.dx (rF R l (p+c)))) R fns ((l.drop p).drop c):=by
 show#[#[l,p+c,aF,by rw[Kt] at hc; lia,by rw[List.drop_drop],hl],?_,?_,BS _ h.bt,h.ok]
 . rw[dH]; exact h.fl
 . rw[dH]; exact h.ls
def wI (h:4<=l.length):∃a b c d r,l=a::b::c::d::r:=by
 match l,h with
 | a::b::c::d::r,_=>show#[a,b,c,d,r,rfl]
 | [],h=>cases h
 | [_],h=>simp at h
 | [_,_],h=>simp at h
 | [_,_,_],h=>simp at h
def Ef {f k acc:Nat} (h:l.length<4):cw f k acc l=none:=by
 match f,l,h with
 | 0,_,_=>unfold cw; rfl
 | f+1,[],_=>rfl
 | f+1,[_],_=>rfl
 | f+1,[_,_],_=>rfl
 | f+1,[_,_,_],_=>rfl
 | f+1,_::_::_::_::_,h=>simp at h; lia
def Ds:∀a∈[48,49],∀b∈[48,49],∀c∈[48,49],(tx [a,b,c],(bv [a,b,c]:Int))∈lQ:=by decide +kernel
def Bk:∀a∈[48,49],∀b∈[48,49],∀c∈[48,49],∀d∈[48,49],(tx [a,b,c,d],(bv [a,b,c,d]:Int))∈lQ:=by decide +kernel
def jd {a:Nat} (h:a=48\/a=49):a∈[48,49]:=by rcases h with rfl|rfl <;> simp
def Hx (l:List Nat) (i j:Nat):Txt.slice (tx l) ⇑(i:Int) ⇑((i:Int)+(j:Int))=tx ((l.drop i).take j):=by
 have e:(i:Int)+(j:Int)=((i+j:Nat):Int):=by lia
 rw[e,K15.sl_mid l ∅,List.drop_take];congr 2
 lia
def Ea (a:Nat) (l:List Nat):Txt.slice (tx (a::l)) (some 1) none=tx l:=K15.sl_from (a::l) 1
def sE {H1 H2 H3:Hp} (a:Same (ers x H1) H2) (b:Same (ers x H2) H3):Same (ers x H1) H3:=(Same.ers2 a)\b
def HV (acc v i:Nat):(acc:Int)+(v:Int) * 2 ^ ((3:Int) * (0+(i:Int))).toNat=((acc+v * 8 ^ i:Nat):Int):=by
 have e:((3:Int) * (0+(i:Int))).toNat=3 * i:=by lia
 rw[e,Int.natCast_add,Int.natCast_mul,Int.natCast_pow,show((2:Int)) ^ (3 * i)=((2:Int) ^ 3) ^ i from Int.pow_mul ..];rfl
def kB {a b:List Nat}:decide (V.str (tx a)=V.str (tx b))=decide (a=b):=by rw[K5,JL,JL];show#[λh=>Gx.tx_inj (V.str.inj h),λh=>by rw[h]]
def qQ {r a r':List Nat} (h:jU c r=⇑(a,r')):c<=r.length/\a=r.take c/\r'=r.drop c:=by
 unfold jU at h;split at h
 . rename_i hc
   cases h;show#[hc,7]
 . cases h
def qf {r:List Nat} (h:jU c r=none):r.length<c:=by
 unfold jU at h;split at h
 . cases h
 . lia
def RdAt.newT {u:MV} {xs:List V} (h:RdAt K CB CF H R fns r) (hu:H u=none):aJ K (ers R.x (upd H u (.tup xs))) u xs:=by obtain⟨l,p,ho,-⟩:=h.ob;exact aJ.of (by rw[aU (aY ho hu).symm]; exact aF)
def RdAt.newL {u:MV} {xs:List V} (h:RdAt K CB CF H R fns r) (hu:H u=none):aH K (ers R.x (upd H u (.lst xs))) u xs:=by obtain⟨l,p,ho,-⟩:=h.ob;exact aH.of (by rw[aU (aY ho hu).symm]; exact aF)
end
section
variable {f most:Nat} {r:List Nat}
def GE (h:most<1):bZ f most r=none:=by unfold bZ;split <;> first|rfl|rw[JJ h]
def Hk:bZ f most []=none:=by unfold bZ; split <;> first|rfl|contradiction
def wC (h:¬ most<1):bZ (f+1) most (48::r)=(cR 0 127 r).map λx=>(.box x.1,x.2):=JI h
def DZ:bZ f most [49]=none:=by cases f <;> rfl
def wG (h:¬ most<1):bZ (f+1) most (49::48::r)=(cw 16 0 0 r).map λx=>(.num x.1,x.2):=JI h
def HQ (h:r.length<4):bZ f most (49::49::r)=none:=by
 match f,r,h with
 | 0,_,_=>unfold bZ; rfl
 | f+1,[],_=>rfl
 | f+1,[_],_=>rfl
 | f+1,[_,_],_=>rfl
 | f+1,[_,_,_],_=>rfl
 | f+1,_::_::_::_::_,h=>simp at h; lia
def B2 {a b d:Nat}(h:¬ most<1):bZ (f+1) most (49::49::a::b::c::d::r)=if bv [a,b,c,d]<9 then(bZ f (most - 1) r).bind λx=>(bZ f (most - lv x.1) x.2).map λy=>(.op (bv [a,b,c,d]) x.1 y.1,y.2) else none:=JI h
def HI:∀i<9,sgTup[i]?=⇑(V.str (eQ i)):=by decide +kernel
end
section
variable {K:MW} {CB CF:MV} {H H' H4:Hp} {R:Rdr} {fns:List F2.Fd} {r r0:List Nat}
def RdAt.back (h0:RdAt K CB CF H R fns r0) (h4:RdAt K CB CF H4 R fns r) (s:Same (ers R.x H) H') (e:H' R.x=H4 R.x):RdAt K CB CF H' R fns r :=
 #[by rw[e]; exact h4.ob,h0.fl*>(Same.ers2 s),Same.seq (Same.ers2 s) h0.ls,h4.bt,h4.ok]
def E4 {p:MV}{o:HO} (h:x≠p):ers x (upd H p o)=upd (ers x H) p o:=by
 funext b;by_cases hb:b=x
 . subst hb;rw[aR h];unfold ers;rw[JJ rfl,JJ rfl]
 . rw[aU hb];by_cases hp:b=p
   . subst hp; rw[aF,aF]
   . rw[aR hp,aR hp,aU hb]
def yj {p:MV}{ds:List PyData} {xs ys:List V} {o:HO} (t:cD ds=true) (hp:H p=⇑(.lst ys)) (hx:x≠p) (h:DatAll K (ers x H) ds xs):DatAll K (ers x (upd H p o)) ds xs:=by rw[E4 hx];exact DatAll.putT t (by rw[aU hx.symm]; exact hp) h
end
def Gs {y:MV}:ers x (ers y H)=ers y (ers x H):=by
 funext b;unfold ers;by_cases h1:b=x
 . rw[JJ h1,JJ h1];by_cases h2:b=y
   . rw[JJ h2]
   . rw[JI h2]
 . rw[JI h1,JI h1]
def lu :ers x H x=none:=by unfold ers; rw[JJ rfl]
def lX {fns:List F2.Fd} {k:Nat} {f:F2.Fd} (h:fns[k]?=⇑f):cE fns k=(F2.nms f).length:=by unfold cE; rw[h]; rfl
def Em (c:Nat):fP (V.str { cps:=(List.toArray [c]) }) [V.str (Str.ofString "0"),V.str (Str.ofString "1")]=decide (c=48\/c=49):=by
 have h0:=kB (a:=[c]) (b:=[48]);have h1:=kB (a:=[c]) (b:=[49]);show(((Str.ofString "0")==({ cps:=(List.toArray [c]) }:Str)) || (((Str.ofString "1")==({ cps:=(List.toArray [c]) }:Str)) || false))=_;have k0:((Str.ofString "0")==({ cps:=(List.toArray [c]) }:Str))=decide (c=48):=by rw[K5,LP,JL];show#[λh=>by have:=Gx.tx_inj (a:=[c]) (b:=[48]) h.symm; simpa using this,λh=>by rw[h]; rfl]
 have k1:((Str.ofString "1")==({ cps:=(List.toArray [c]) }:Str))=decide (c=49):=by rw[K5,LP,JL];show#[λh=>by have:=Gx.tx_inj (a:=[c]) (b:=[49]) h.symm; simpa using this,λh=>by rw[h]; rfl]
 rw[k0,k1,Ls,K5,MP,JL,JL,JL]
abbrev sY (c:Nat):Bool:=decide (c=48\/c=49)
def wE :(l.map sY).all id=true <-> bQ l:=by rw[Ku];show#[λh c hc=>LR (h _ (JW.mpr #[c,hc,rfl])),λh b hb=>?_];let#[c,hc,rfl]:=JW.mp hb;exact Jg (h c hc)
def DO (g:Nat->F2.Fd->V) (fns:List F2.Fd):(F2.kD g fns).map (λkv=>kV kv.1)=fns.map λf=>V.str f.name:=by refine Lz λk=>?_;unfold F2.kD;rw[JC,List.getElem?_mapIdx,JC];cases fns[k]? <;> rfl
def Bm {P:Mk->Prop} {ms:List Mk} (h0:P cY) (h:∀m∈ms,P m) (i:Nat):P (dS ms i):=by
 cases i with
 | zero=>exact h0
 | succ i =>
   show P (ms.getD i cY);rw[JH];cases e:ms[i]? with
   | none=>exact h0
   | some m=>exact h m (J9 e)
def BE {ms:List Mk} {m:Mk} {i:Nat} (h:ms.length=i):dS (ms++[m]) (i+1)=m:=by show(ms++[m]).getD i cY=m;rw[JH,<- h,K1 (JG _),MC];rfl
def qY {A B G:Hp} {L:MV} {us:List V} (s:Same A B) (hL:B L=⇑(.lst us)):Same (nwL B G) (ers L (nwL A G)):=λb o h=>by let#[h1,h2]:=kI h;rw[aU (λe=>by subst e; exact h1 _ hL),jW λys z=>h1 ys (s _ _ z)];exact h2
abbrev jK {α β:Type} (f:α->JM β):List α->JM (List β)
 | []=>⇑[]
 | a::l=>(f a).bind λb=>(jK f l).map (b::·)
def uh {α β:Type} {f:α->JM β}:∀{l:List α} {a:α},a∈l->f a=none->jK f l=none
 | x::l,a,h,e=>by
   unfold jK;rcases JS.mp h with rfl|h
   . rw[e]; rfl
   . rw[uh h e]; cases f x <;> rfl
def lN {α β:Type} {f:α->JM β}:∀{l:List α} {m:List β},m.length=l.length->(∀(k:Nat) a b,l[k]?=⇑a->m[k]?=⇑b->f a=⇑b)->jK f l=⇑m
 | [],m,hl,_=>by rw[KF.mp hl]; rfl
 | a::l,[],hl,_=>by simp at hl
 | a::l,b::m,hl,h=>by unfold jK;rw[h 0 a b rfl rfl,lN (m:=m) ↑hl λk a b h1 h2=>h (k+1) a b h1 h2];rfl
abbrev gv (fns:List F2.Fd) (ls:List (List Nat)):JM (List (List Mk)):=if ls.length=fns.length then jK (gY (b9 fns) (cE fns)) ls else none
def mC {α:Type} {xs:List α} {x y:α} {k:Nat} (h:(xs++[x])[k]?=⇑y):(k<xs.length/\xs[k]?=⇑y)\/(k=xs.length/\y=x):=by
 by_cases hk:k<xs.length
 . rw[KC hk] at h;exact .inl #[hk,h]
 . have:k=xs.length:=by
     have:=(JF.mp h).1;rw[JE] at this;simp at this
     lia
   subst this;rw[K1 (JG _),MC] at h;cases h;exact .inr #[7]
def xI {B G:Hp} {L:MV} {us:List V} (hL:B L=⇑(.lst us)):Same (nwL B G) (ers L G):=(qY (Same.refl B) hL)\(Same.ers kH)
def wu {l:List Str} (h:l.Nodup):K12.onceL l=l:=by
 have key:∀(l acc:List Str),(acc++l).Nodup->l.foldl K12.step acc=acc++l:=by
   intro l
   induction l with
   | nil=>intro acc _; rw[Jq]; rfl
   | cons s l ih =>
     intro acc h;have hs:s ∉ acc:=λhm=>(LU.mp h).2.2 s hm s Je rfl;show l.foldl K12.step (K12.step acc s)=_;have e:K12.step acc s=acc++[s]:=by unfold K12.step; rw[JI hs]
     rw[e,ih (acc++[s]) (by rw[Jl]; exact h),Jl];rfl
 exact(key l [] ↑h).trans (MN l)
def vN (b:Int) (p m:Nat):((List.range p).map λj:Nat=>aj b (j:Int))++((List.range m).map λj:Nat=>aj b ((p:Int)+(j:Int)))=(List.range (p+m)).map λj:Nat=>aj b (j:Int):=by rw[List.range_add,JB,Jm];congr 1
def ww {K:MW} {H:Hp}:∀ls:List (List Nat),DatAll K H (ls.map λl=>PyData.str (tx l)) (dI ls)
 | []=>bK
 | l::ls=>ck (dQ _) (ww ls)
def FX {ls:List (List Nat)} (h:∀l∈ls,bQ l):ag 1 (.list (ls.map λl=>PyData.str (tx l))):=ag.list (gN λl hl=>.str (Im (h l hl)))
def bes {a:JM (JM BTr)} {o:JM BTr} (ha:∀x∈a,cS x) (ho:cS o):PyData.eqv (.list [bE o]) (.list (a.toList.map bE))=gF a o:=by
 cases a with
 | none=>exact(mQ _).trans rfl
 | some x =>
   have hx:=ha x rfl;refine(uM _ _).trans ?_;show PyData.eqv (bE o) (bE x)=PyData.eqv (bE x) (bE o);rw[K5];show#[λh=>by rw[tV ho hx h]; exact(je hx).refl,λh=>by rw[tV hx ho h]; exact(je ho).refl]
def shp {l:List (JM BTr)} (h:∀o∈l,cS o):SeqAt.shaped (.list (l.map bE))=true:=(ag.list (gN λo ho=>je (h o ho))).shaped (by decide:9<=64)
def u9 {b:Nat}:decide (V.str (tx [b])=V.str (Str.ofString "0"))=decide (b=48):=by have:=kB (a:=[b]) (b:=[48]);rw[show decide ([b]=[48])=decide (b=48) by simp] at this;exact this
def tx1 {b:Nat}:decide (V.str (tx [b])=V.str (Str.ofString "1"))=decide (b=49):=by have:=kB (a:=[b]) (b:=[49]);rw[show decide ([b]=[49])=decide (b=49) by simp] at this;exact this
def nj {r a r':List Nat} (h:jU 1 r=⇑(a,r')):∃b,r=b::r'/\a=[b]:=by
 let#[h1,rfl,rfl]:=qQ h;cases r with
 | nil=>simp at h1
 | cons b r=>show#[b,7]
def ni {r:List Nat} (h:jU 1 r=none):r=[]:=KF.mp (by have:=qf h; lia)
end Dc
namespace L2
open PySem PySem.Spec PyProof.Rows
abbrev IE (K:MW):R2:=λx y H Q=>∃l b xs zs,x=↥l/\y=↥b/\aH K H l xs/\aH K H b zs/\xs.length+zs.length<=sizeLine/\∀p,H p=none->Q ↥p (upd H p (.lst (xs++zs)))
def IQ {X:Cx}:bc X (binaryOp .Add) (IE X.K):=by
 intro pins s σ H x y v u Q I rx ry h;let#[l,b,xs,zs,rfl,rfl,hH,hB,hz,q]:=h;cases rx;cases ry;obtain⟨its,r,⟨⟨cls,dd,data,sl⟩,n,ho,hc,hdn,hd⟩,_⟩:=I.list hH;obtain⟨its2,r2,⟨⟨cls2,dd2,data2,sl2⟩,n2,ho2,hc2,hdn2,hd2⟩,_⟩:=I.list hB;simp only at hc hd hc2 hd2;subst hc hd hc2 hd2;have e1:=r.length;have e2:=r2.length;refine concat_meets #[_,ho,rfl] #[_,ho2,rfl] noFill_list_add seq_list_add PySem.F.slot_list_add PySem.F.entry_list_add (PySem.F.args_list_add_2 _ _) (list_addW l b its.toArray its2.toArray n n2 dd dd2 sl sl2 (by rw[JV,JV]; lia)) #[ho,ho2,?_];have ea:its.toArray++its2.toArray=(its++its2).toArray:=by simp
 rw[ea];show#[↥_,_,I.lnew (t':=s.toks) (r.append r2) (by rw[JE]; lia),rfl,q _ I.fresh]
end L2
namespace Ua
open PySem L2 Gx Bt Pk Dc
abbrev tl (H:Hp):Hp:=λb=>match H b with
 | some (.lst _)=>none
 | some (.ins _ _ _)=>none
 | o=>o
variable {H:Hp} {b:MV} {o:HO}
def nC (h:tl H b=⇑o):H b=⇑o/\(∀ys,o≠.lst ys)/\(∀C d f,o≠.ins C d f):=by
 unfold tl at h;split at h
 . cases h
 . cases h
 . rename_i n1 n2
   show#[h,λys z=>n1 ys (by rw[h,z]),λC d f z=>n2 C d f (by rw[h,z])]
def tF (h:H b=⇑o) (n1:∀ys,o≠.lst ys) (n2:∀C d f,o≠.ins C d f):tl H b=⇑o:=by
 unfold tl;split
 . rename_i e; rw[h] at e; exact absurd (Option.some.inj e) (n1 _)
 . rename_i e; rw[h] at e; exact absurd (Option.some.inj e) (n2 _ _ _)
 . exact h
def kR :Same (tl H) H:=λb o h=>(nC h).1
variable {H':Hp}
def mn (s:∀b o,H b=⇑o->(∀ys,o≠.lst ys)->(∀C d f,o≠.ins C d f)->H' b=⇑o):Same (tl H) (tl H'):=λb o h=>by let#[h1,h2,h3]:=nC h; exact tF (s b o h1 h2 h3) h2 h3
def gy (e:Same H H'):Same (tl H) (tl H'):=mn λb o h _ _=>e b o h
variable {x C d:MV}
def xt {f:List (Str×V)} (hx:H x=⇑(.ins C d f)) (e:Same (ers x H) H'):Same (tl H) (tl H'):=mn λb o h _ n=>e b o (by rw[aU λz=>by subst z; rw[hx] at h; exact n _ _ _ (Option.some.inj h).symm]; exact h)
variable {l:MV} {ys:List V}
def fb (hl:H l=⇑(.lst ys)):Same (tl H) (tl (upd H l o)):=mn λb o h n _=>by rw[aR λz=>by subst z; rw[hl] at h; exact n _ (Option.some.inj h).symm];exact h
section
variable {K:MW} {H H':Hp}
def qa {a:MV} {xs:List V} (h:aJ K H a xs):aJ K (tl H) a xs:=by
 rcases h with(h|⟨o,h⟩)|h
 . exact .inl (.inl (tF h (λ_ z=>by cases z) λ_ _ _ z=>by cases z))
 . exact .inl (.inr #[o,tF h (λ_ z=>by cases z) λ_ _ _ z=>by cases z])
 . exact .inr h
mutual
theorem DatV.tl:∀(d:PyData) (v:V),bz d=true->DatV K H d v->DatV K (tl H) d v
 | .none,v,t,h=>by unfold DatV at h ⊢; exact h
 | .bool b,v,t,h=>by unfold DatV at h ⊢; exact h
 | .int i,v,t,h=>by unfold DatV at h ⊢; exact h
 | .str x,v,t,h=>by unfold DatV at h ⊢; exact h
 | .list ds,v,t,h=>by unfold bz at t; cases t
 | .tuple ds,v,t,h=>by unfold DatV at h ⊢;unfold bz at t;let#[a,xs,rfl,hq,hd]:=h;show#[a,xs,rfl,qa hq,DatAll.tl ds xs t hd]
 | .dict _,v,t,h=>by unfold bz at t; cases t
theorem DatAll.tl:∀(ds:List PyData) (xs:List V),cD ds=true->DatAll K H ds xs->DatAll K (tl H) ds xs
 | [],xs,t,h=>by unfold DatAll at h ⊢; exact h
 | d::ds,xs,t,h=>by unfold DatAll at h ⊢;unfold cD at t;rw[Jf] at t;let#[x,r,rfl,hd,hds]:=h;show#[x,r,rfl,DatV.tl d x t.1 hd,DatAll.tl ds r t.2 hds]
end
end
variable {A G:Hp}
def wD (s:Same A G) (hl:G l=⇑(.lst ys)):Same (tl G) (ers l (nwL A G)):=λb o h=>by
 let#[h1,h2,h3]:=nC h;have n1:b≠l:=λz=>by subst z; rw[hl] at h1; exact h2 _ (Option.some.inj h1).symm
 rw[aU n1,jW λys z=>h2 ys (Option.some.inj (h1.symm\(s _ _ z)))];exact h1
def Fx (hl:A l=⇑(.lst ys)):Same (nwL A G) (upd G l o):=λb u h=>by let#[h1,h2]:=kI h;rw[aR λz=>h1 ys (by rw[z]; exact hl)];exact h2
abbrev LL (A B:Hp):Prop:=∀b ys,A b=⇑(.lst ys)->∃ys',B b=⇑(.lst ys')
def LL.refl (A:Hp):LL A A:=λb ys h=>#[ys,h]
def LL.same {B C:Hp}(h:LL A B) (s:Same B C):LL A C:=λb ys z=>by let#[ys',e]:=h b ys z; show#[ys',s _ _ e]
def LL.put {B:Hp}{zs:List V} (h:LL A B):LL A (upd B l (.lst zs)):=λb ys z=>by
 by_cases e:b=l
 . subst e; show#[zs,aF]
 . let#[ys',q]:=h b ys z;show#[ys',(aR e)\q]
def El {B:Hp}(h:LL A B):Same (nwL B G) (nwL A G):=λb o z=>by let#[h1,h2]:=kI z;rw[jW λys q=>by let#[ys',e]:=h b ys q; exact h1 _ e];exact h2
def qZ (hl:A l=⇑(.lst ys)):Same (nwL A G) (nwL A (upd G l o)):=λb u h=>by let#[h1,h2]:=kI h;rw[jW h1,aR λz=>h1 ys (by rw[z]; exact hl)];exact h2
structure Vw where
 p:Addr
 xs:List V
 pl:List (Option BTr)
structure Ma where
 a:Addr
 cA:Addr
 va:Addr
 ch:List (Nat×Nat)
 ws:List Vw
abbrev Ma.mk' (m:Ma):Mk:=#[m.ch,m.ws.map (·.pl)]
abbrev dw (m:Ma):List MV:=m.va::m.ws.map (·.p)
abbrev jC (K:MW) (H:Hp) (w:Vw):Prop:=H w.p=⇑(.lst w.xs)/\DatAll K (tl H) (w.pl.map bE) w.xs
structure MaAt (K:W.Frag) (nm:Nat->Str) (H:Hp) (m:Ma):Prop where
 tu:aJ K (tl H) m.a [↥m.cA,↥m.va]
 ch:DatV K (tl H) (.tuple (m.ch.map (g8 nm))) ↥m.cA
 vs:H m.va=⇑(.lst (m.ws.map λw=>V.ref w.p))
 ws:∀w∈m.ws,jC K H w
section
variable {K:MW} {nm:Nat->Str} {H H':Hp}
def jC.keep {w:Vw} (h:jC K H w) (t:Same (tl H) (tl H')) (e:H' w.p=H w.p):jC K H' w:=#[e\h.1,DatAll.mono t _ _ h.2]
def MaAt.keep {m:Ma} (h:MaAt K nm H m) (t:Same (tl H) (tl H')) (e:∀b∈dw m,H' b=H b):MaAt K nm H' m :=
 #[t<*h.tu,DatV.mono t _ _ h.ch,(e _ Je)\h.vs,λw hw=>(h.ws w hw).keep t (e _ (Jc _ (JW.mpr #[w,hw,rfl])))]
variable {m:Ma}
def MaAt.live (h:MaAt K nm H m):∀b∈dw m,∃ys,H b=⇑(.lst ys):=λb hb=>by
 rcases JS.mp hb with rfl|hb
 . show#[_,h.vs]
 . let#[w,hw,rfl]:=JW.mp hb;show#[_,(h.ws w hw).1]
def MaAt.mono (h:MaAt K nm H m) (e:Same H H'):MaAt K nm H' m:=h.keep (gy e) λb hb=>by let#[ys,z]:=h.live b hb;rw[z,e _ _ z]
def MaAt.step {f:List (Str×V)} (h:MaAt K nm H m) (hx:H x=⇑(.ins C d f)) (e:Same (ers x H) H'):MaAt K nm H' m:=h.keep (xt hx e) λb hb=>by let#[ys,z]:=h.live b hb;rw[z,e _ _ (by rw[aU λq=>by subst q; rw[hx] at z; cases z]; exact z)]
def MaAt.put (h:MaAt K nm H m) (hl:H l=⇑(.lst ys)) (hn:l ∉ dw m):MaAt K nm (upd H l o) m:=h.keep (fb hl) λb hb=>aR λz=>hn (z ▸ hb)
def MaAt.dat (h:MaAt K nm H m) (t:Same (tl H) G) (e:∀b∈dw m,G b=H b):DatV K G (eY nm m.mk') ↥m.a:=by
 refine cQ (t<*h.tu) (DatV.mono t _ _ h.ch) (bO (aH.of ((e _ Je)\h.vs)) ?_);show DatAll K G ((m.ws.map (·.pl)).map d7) _;rw[Jm];refine lW (by rw[J7,J7]) λi d x hd hx=>?_;rw[JC] at hd hx;cases hw:m.ws[i]? with
 | none=>rw[hw] at hd; cases hd
 | some w =>
   rw[hw] at hd hx;cases hd;cases hx;have hm:=J9 hw;have hv:=h.ws w hm;exact bO (aH.of ((e _ (Jc _ (JW.mpr #[w,hm,rfl])))\hv.1)) (DatAll.mono t _ _ hv.2)
end
section
variable {K:MW} {nm:Nat->Str} {H:Hp}
def MaAt.nox {f:List (Str×V)} (h:MaAt K nm H m) (hx:H x=⇑(.ins C d f)):∀b∈dw m,b≠x:=λb hb z=>by let#[ys,e]:=h.live b hb;rw[z,hx] at e;cases e
def MaAt.dat2 {L:MV}{f:List (Str×V)} (h:MaAt K nm H m) (hx:H x=⇑(.ins C d f)) (hL:H L=⇑(.lst ys)) (hn:L ∉ dw m):DatV K (ers L (ers x (upd H L o))) (eY nm m.mk') ↥m.a :=
 h.dat (λb u hb=>by
   let#[h1,h2,h3]:=nC hb;have n1:b≠L:=λz=>by subst z; rw[hL] at h1; exact h2 _ (Option.some.inj h1).symm
   have n2:b≠x:=λz=>by subst z; rw[hx] at h1; exact h3 _ _ _ (Option.some.inj h1).symm
   rw[aU n1,aU n2,aR n1];exact h1) λb hb=>by
   have n1:b≠L:=λz=>hn (z ▸ hb);rw[aU n1,aU (h.nox hx b hb),aR n1]
end
structure New (H0:Hp) (os:List Addr):Prop where
 nd:os.Nodup
 nw:∀b∈os,H0 b=none
variable {H0:Hp}
def New.join {H1:Hp}{os ps:List MV} (h:New H0 os) (h':New H1 ps) (a:∀b∈os,H1 b≠none) (f:∀b,H1 b=none->H0 b=none):New H0 (os++ps) :=
 #[LU.mpr #[h.nd,h'.nd,λb hb c hc z=>a b hb (z ▸ h'.nw c hc)],λb hb=>(JZ.mp hb).elim (h.nw b) λq=>f b (h'.nw b q)]
def New.snoc {H1:Hp}{os:List MV} {p:MV} (h:New H0 os) (hp:H1 p=none) (a:∀b∈os,H1 b≠none) (f:∀b,H1 b=none->H0 b=none):New H0 (os++[p]):=h.join (H1:=H1) #[by simp,λb hb=>by rw[JK.mp hb]; exact hp] a f
structure En where
 e:Addr
 l:Addr
 ms:List Ma
abbrev nU (en:En):List MV:=en.l::en.ms.flatMap λm=>[m.va]
abbrev oj (en:En):List MV:=en.ms.flatMap λm=>m.ws.map (·.p)
abbrev di (en:En):List MV:=nU en++oj en
variable {en:En}
def EL (hm:m∈en.ms) (hb:b∈dw m):b∈di en:=by
 rcases JS.mp hb with rfl|hb
 . exact Kh _ (Jc _ (Jw.mpr #[m,hm,Je]))
 . exact Jk _ (Jw.mpr #[m,hm,hb])
def FT (h:b∈di en):b=en.l\/∃m∈en.ms,b∈dw m:=by
 rcases JZ.mp h with h|h
 . rcases JS.mp h with h|h
   . exact .inl h
   . let#[m,hm,hb]:=Jw.mp h;exact .inr #[m,hm,by rw[JK.mp hb]; exact Je]
 . let#[m,hm,hb]:=Jw.mp h;exact .inr #[m,hm,Jc _ hb]
def tq {α β:Type} (g h:α->List β):∀xs:List α,(xs.flatMap λx=>g x++h x).Perm (xs.flatMap g++xs.flatMap h)
 | []=>.refl _
 | x::xs=>by rw[KN,KN,KN];refine((tq g h xs).append_left _).trans ?_;rw[Jl,Jl];refine List.Perm.append_left _ ?_;rw[<- Jl,<- Jl];exact List.perm_append_comm.append_right _
def New.perm {os ps:List MV} (h:New H0 os) (e:os.Perm ps):New H0 ps:=#[e.nodup_iff.mp h.nd,λb hb=>h.nw b (e.mem_iff.mpr hb)]
def New.entry {e:MV}{ms:List Ma} (h:New H0 (l::ms.flatMap dw)):New H0 (di #[e,l,ms]):=h.perm (List.Perm.cons l (tq (λm:Ma=>[m.va]) (λm:Ma=>m.ws.map Vw.p) ms))
structure EnAt (K:W.Frag) (nm:Nat->Str) (H:Hp) (k:Nat) (en:En):Prop where
 tu:aJ K (tl H) en.e [.str (nm k),↥en.l]
 ls:H en.l=⇑(.lst (en.ms.map λm=>V.ref m.a))
 ms:∀m∈en.ms,MaAt K nm H m
structure FndAt (K:W.Frag) (nm:Nat->Str) (H:Hp) (T:Addr) (es:List En):Prop where
 ls:H T=⇑(.lst (es.map λe=>V.ref e.e))
 es:∀(k:Nat) en,es[k]?=⇑en->EnAt K nm H k en
abbrev aT (es:List En):List (List Mk):=es.map λe=>e.ms.map Ma.mk'
section
variable {K:MW} {nm:Nat->Str} {H H':Hp}
def EnAt.keep {k:Nat} {en:En} (h:EnAt K nm H k en) (t:Same (tl H) (tl H')) (e:∀b∈di en,H' b=H b):EnAt K nm H' k en :=
 #[t<*h.tu,(e _ (Kh _ Je))\h.ls,λm hm=>(h.ms m hm).keep t λb hb=>e b (EL hm hb)]
def EnAt.live {k:Nat} {en:En} (h:EnAt K nm H k en):∀b∈di en,∃ys,H b=⇑(.lst ys):=λb hb=>by
 rcases FT hb with rfl|⟨m,hm,hb⟩
 . show#[_,h.ls]
 . exact(h.ms m hm).live b hb
def EnAt.mono {k:Nat} (h:EnAt K nm H k en) (e:Same H H'):EnAt K nm H' k en:=h.keep (gy e) λb hb=>by let#[ys,z]:=h.live b hb;rw[z,e _ _ z]
def EnAt.put {k:Nat} (h:EnAt K nm H k en) (hl:H l=⇑(.lst ys)) (hn:l ∉ di en):EnAt K nm (upd H l o) k en:=h.keep (fb hl) λb hb=>aR λz=>hn (z ▸ hb)
end
section
variable {K:MW} {nm:Nat->Str} {H H':Hp} {T:MV} {es:List En}
def FndAt.mono (h:FndAt K nm H T es) (e:Same H H'):FndAt K nm H' T es:=#[e _ _ h.ls,λk en hk=>(h.es k en hk)*>e]
def FndAt.put {R:MV} {ys:List V} {o:HO} (h:FndAt K nm H T es) (hR:H R=⇑(.lst ys)) (hn:R ∉ T::es.flatMap di):FndAt K nm (upd H R o) T es :=
 #[(aR λz=>hn (by rw[z]; exact Je))\h.ls,λk en hk=>(h.es k en hk).put hR λz=>hn (Jc _ (Jw.mpr #[en,J9 hk,z]))]
end
variable {n:Nat}
def F4 {m0 m:Mk} (h:MOk n m) (hn:n<=12) (hv:∀v∈m.vs,v.length<=1):(mb m0 m).length<=2300:=by
 have h1:=iq (n:=m.ch.length) (by have:=h.l3; lia);have h2:=ik (wz h hn);have h3:=ik (l:=(List.range m.ch.length).map (wB m0 m)) (c:=600) λx hx=>by
   let#[l,_,rfl]:=JW.mp hx;have a1:=ow h l;have a2:=qd (ah:=cP m0 l (j3 m l)) a1.2;have a3:(iC m l).length<=1:=by
     unfold iC;rw[JH];cases e:m.vs[l]? with
     | none=>exact Jd _
     | some v=>exact hv v (J9 e)
   unfold wB
   lia
 rw[J7,JY] at h3;rw[J7] at h2;have:=h.l3;have a1:m.ch.length * 600<=3 * 600:=KB _ this;have a2:m.ch.length * 128<=3 * 128:=KB _ this;unfold mb;rw[JE,JE]
 lia
def uk {ms:List Mk} (h:∀m∈ms,MOk n m) (hn:n<=12) (hl:ms.length<=200) (hc:ms.length<=16\/∀m∈ms,∀v∈m.vs,v.length<=1):(c6 ms).length<=1000000:=by
 have h1:=iq (n:=ms.length) ∅;unfold c6;rw[JE];rcases hc with hc|hc
 . have h2:=ik (vB h hn ms.length (JG _));rw[nI] at h2;have a1:ms.length * 43700<=16 * 43700:=KB _ hc
   lia
 . have h2:=ik (l:=eZ ms ms.length) (c:=2300) λx hx=>by
     let#[j,hj,rfl]:=JW.mp hx;have hj:=KA.mp hj;have hm:ms.getD j cY∈ms:=by rw[JH,JA hj];exact K2 _
     exact F4 (h _ hm) hn (hc _ hm)
   rw[nI] at h2;have a1:ms.length * 2300<=200 * 2300:=KB _ hl
   lia
abbrev fL (es:List En):List Vw:=es.flatMap λen=>en.ms.flatMap (·.ws)
abbrev cons (T:MV) (es:List En):List MV:=T::es.flatMap nU
def C2 (es:List En):(fL es).map (·.p)=es.flatMap oj:=by unfold fL oj;rw[List.map_flatMap];congr 1;funext en;rw[List.map_flatMap]
def New.all {T:MV} {es:List En} (h:New H0 (T::es.flatMap di)):New H0 (cons T es++(fL es).map (·.p)):=by rw[C2];exact h.perm (List.Perm.cons _ (tq nU oj es))
def tI {α β:Type} {f:α->List β} {y:β} {k:Nat}:∀{xs:List α} {i:Nat} {x:α},xs[i]?=⇑x->(f x)[k]?=⇑y->(xs.flatMap f)[((xs.take i).flatMap f).length+k]?=⇑y
 | a::xs,0,x,h,e=>by cases h;rw[List.take_zero,Lb,L0,LI,KN,KC (JF.mp e).1];exact e
 | a::xs,i+1,x,h,e=>by
   have h:xs[i]?=⇑x:=↑h
   rw[List.take_succ_cons,KN,KN,JE,MS,K1 (LZ _ _),LQ];exact tI h e
def vR {α β:Type} {f:α->List β} {xs:List α} {i:Nat} {x:α} (h:xs[i]?=⇑x):((xs.take (i+1)).flatMap f).length=((xs.take i).flatMap f).length+(f x).length:=by rw[Jr,h,K6,JE];congr 1;show(([x]:List α).flatMap f).length=_;rw[KN,Lb,Jq]
structure Apd (H:Hp) (W:List Vw) (n:Nat) (G:Hp):Prop where
 kp:∀b o,H b=⇑o->b ∉ W.map (·.p)->G b=⇑o
 ws:∀(i:Nat) w,W[i]?=⇑w->G w.p=⇑(.lst (if i<n then w.xs++[.int i] else w.xs))
def Apd.zero {W:List Vw} (h:∀w∈W,H w.p=⇑(.lst w.xs)):Apd H W 0 H:=#[λb o e _=>e,λi w hw=>by rw[JI (Js i)]; exact h w (J9 hw)]
def Apd.succ {W:List Vw} {w:Vw} (h:Apd H W n G) (nd:(W.map (·.p)).Nodup) (hw:W[n]?=⇑w):Apd H W (n+1) (upd G w.p (.lst (w.xs++[.int n]))):=by
 have hp:(W.map (·.p))[n]?=⇑w.p:=by rw[JC,hw]; rfl
 show#[λb o e n'=>by rw[aR λz=>n' (by rw[z]; exact J9 hp)]; exact h.kp b o e n',λi u hu=>?_];by_cases hi:i=n
 . subst hi;rw[hw] at hu;cases hu;rw[aF,JJ (KG i)]
 . have hq:(W.map (·.p))[i]?=⇑u.p:=by rw[JC,hu]; rfl
   have ne:u.p≠w.p:=λz=>hi ((L8 (JF.mp hq).1 nd).mp (by rw[hq,hp,z]));rw[aR ne,h.ws i u hu];by_cases hl:i<n
   . rw[JJ hl,JJ ∅]
   . rw[JI hl,JI ∅]
def Apd.tl {W:List Vw} (h:Apd H W n G) (hl:∀w∈W,H w.p=⇑(.lst w.xs)):Same (tl H) (tl G):=mn λb o e n1 _=>h.kp b o e λz=>by let#[w,hw,rfl]:=JW.mp z;rw[hl w hw] at e;exact n1 _ (Option.some.inj e).symm
def Apd.mono {G':Hp}{W:List Vw} (h:Apd H W n G) (e:Same G G'):Apd H W n G':=#[λb o z q=>e _ _ (h.kp b o z q),λi w hw=>e _ _ (h.ws i w hw)]
abbrev nE (es:List En) (i:Nat):Nat:=((es.take i).flatMap λen=>en.ms.flatMap (·.ws)).length
abbrev nM (ms:List Ma) (j:Nat):Nat:=((ms.take j).flatMap (·.ws)).length
def yy {es:List En} {i j l:Nat} {w:Vw} (he:es[i]?=⇑en) (hm:en.ms[j]?=⇑m) (hw:m.ws[l]?=⇑w):(fL es)[nE es i+(nM en.ms j+l)]?=⇑w:=tI he (tI hm hw)
def uw {es:List En} {i:Nat} (h:es[i]?=⇑en):nE es (i+1)=nE es i+nM en.ms en.ms.length:=by unfold nE nM;rw[vR h,Jh]
def yr {ms:List Ma} {j:Nat} (h:ms[j]?=⇑m):nM ms (j+1)=nM ms j+m.ws.length:=vR h
section
variable {K:MW} {nm:Nat->Str} {H:Hp} {T:MV} {es:List En}
def FndAt.vw (h:FndAt K nm H T es):∀w∈fL es,jC K H w:=λw hw=>by let#[en,he,hw]:=Jw.mp hw;let#[m,hm,hw]:=Jw.mp hw;let#[k,hk]:=K0 he;exact((h.es k en hk).ms m hm).ws w hw
def FndAt.con (h:FndAt K nm H T es) (a:Apd H (fL es) n G) (nd:(cons T es++(fL es).map (·.p)).Nodup):G T=⇑(.lst (es.map λe=>V.ref e.e))/\∀(k:Nat) en,es[k]?=⇑en->aJ K G en.e [.str (nm k),↥en.l]/\G en.l=⇑(.lst (en.ms.map λm=>V.ref m.a))/\∀m∈en.ms,aJ K G m.a [↥m.cA,↥m.va]/\G m.va=⇑(.lst (m.ws.map λw=>V.ref w.p)):=by have sep:∀c∈cons T es,c ∉ (fL es).map (·.p):=λc hc z=>(LU.mp nd).2.2 c hc c z rfl;have t:=(a.tl λw hw=>(h.vw w hw).1)\kR;show#[a.kp _ _ h.ls (sep _ Je),λk en hk=>?_];have hE:=h.es k en hk;have hm:=J9 hk;have in1:∀c∈nU en,c∈cons T es:=λc hc=>Jc _ (Jw.mpr #[en,hm,hc]);show#[t<*hE.tu,a.kp _ _ hE.ls (sep _ (in1 _ Je)),λm hmm=>#[t<*(hE.ms m hmm).tu,a.kp _ _ (hE.ms m hmm).vs (sep _ (in1 _ (Jc _ (Jw.mpr #[m,hmm,Je]))))]]
end
end Ua
namespace K84
open PySem L2 Gx Fl Bt Pk Dc Ua
abbrev bB (i:Nat):Stmt:=PySem.Challenge.pw_stopglass_k84_whole_unpacked_is_packed.main.body.getD i (.Pass #[(0),(0),(0),(0)])
noncomputable abbrev oY:Stmt:=bB 7
noncomputable abbrev oE:Stmt:=bB 8
noncomputable abbrev pS:Stmt:=bB 9
noncomputable abbrev om:Stmt:=bB 10
noncomputable abbrev nn:Stmt:=bB 11
noncomputable abbrev nv:Stmt:=bB 12
noncomputable abbrev pR:Stmt:=bB 13
noncomputable abbrev p8:Stmt:=bB 14
noncomputable abbrev ny:Stmt:=gZ (bB 15) 0
noncomputable abbrev ox:Stmt:=bB 19
noncomputable abbrev nh:Stmt:=bB 20
noncomputable abbrev oW:Stmt:=bB 29
noncomputable abbrev oJ:Stmt:=bB 30
noncomputable abbrev nW:Stmt:=bB 31
noncomputable abbrev nV:Stmt:=bB 32
noncomputable abbrev oF:Stmt:=bB 33
noncomputable abbrev nr:Stmt:=bB 34
noncomputable abbrev mh:Stmt:=bB 35
noncomputable abbrev mf:Stmt:=bB 36
noncomputable abbrev mi:Stmt:=bB 37
noncomputable abbrev pc:Stmt:=bB 38
noncomputable abbrev mV:Stmt:=gZ (bB 39) 0
noncomputable abbrev mZ:Stmt:=gZ (bB 39) 1
noncomputable abbrev oh:Stmt:=gZ (bB 39) 2
noncomputable abbrev px:Stmt:=gZ (bB 39) 3
noncomputable abbrev oS:Stmt:=gZ (bB 39) 4
noncomputable abbrev me:Stmt:=gZ (bB 39) 5
noncomputable abbrev nY:Stmt:=gZ (bB 39) 6
noncomputable abbrev my:Stmt:=gZ (bB 39) 7
noncomputable abbrev pf:Stmt:=gZ (bB 39) 8
noncomputable abbrev ph:Stmt:=gZ (bB 39) 9
noncomputable abbrev nH:Stmt:=bB 41
noncomputable abbrev mx:Stmt:=bB 42
noncomputable abbrev oV:Stmt:=bB 43
noncomputable abbrev ot:Stmt:=bB 44
noncomputable abbrev pX:Stmt:=bB 45
noncomputable abbrev nB:Stmt:=bB 46
noncomputable abbrev pQ:Stmt:=bB 47
noncomputable abbrev pM:Stmt:=bB 48
noncomputable abbrev oO:Stmt:=bB 49
noncomputable abbrev nP:Stmt:=bB 57
noncomputable abbrev pJ:Stmt:=bB 50
noncomputable abbrev oI:Stmt:=bB 51
noncomputable abbrev oX:Stmt:=bB 52
noncomputable abbrev nG:Stmt:=bB 53
noncomputable abbrev pq:Stmt:=bB 54
noncomputable abbrev nN:Stmt:=bB 55
noncomputable abbrev mz:Stmt:=bB 56
noncomputable abbrev pw:Stmt:=bB 58
noncomputable abbrev mX:Stmt:=bB 59
noncomputable abbrev m5:Stmt:=bB 60
set_option genInjectivity false in
set_option genSizeOf false in
structure Adr where
 x_gE:Addr
 x_bB:Addr
 bG:Addr
 c_bR:Addr
 zu:Addr
 Ag:FuncData
 A1:Addr
 Al:FuncData
 zX:Addr
 AL:FuncData
 zT:Addr
 AH:FuncData
 zV:Addr
 AJ:FuncData
 A5:Addr
 Ap:FuncData
 zU:Addr
 AI:FuncData
 zW:Addr
 AK:FuncData
 zS:Addr
 AG:FuncData
 zY:Addr
 AM:FuncData
 qE:Addr
 qM:FuncData
 zw:Addr
 Ah:FuncData
 A0:Addr
 Ak:FuncData
 zy:Addr
 Aj:FuncData
 qG:Addr
 qN:FuncData
 zx:Addr
 Ai:FuncData
 zt:Addr
 Af:FuncData
 zr:Addr
 Ae:FuncData
 A3:Addr
 An:FuncData
 A4:Addr
 Ao:FuncData
 A2:Addr
 Am:FuncData
 zL:Addr
 AA:FuncData
 zQ:Addr
 AE:FuncData
 zN:Addr
 AC:FuncData
 zJ:Addr
 A8:FuncData
 zH:Addr
 A7:FuncData
 zM:Addr
 AB:FuncData
 zK:Addr
 A9:FuncData
 zR:Addr
 AF:FuncData
 zP:Addr
 AD:FuncData
 pz:Addr
 qH:FuncData
 zc:Addr
 AQ:FuncData
 zk:Addr
 AY:FuncData
 zj:Addr
 AX:FuncData
 zh:Addr
 AV:FuncData
 zm:Addr
 Aa:FuncData
 qD:Addr
 qK:FuncData
 zl:Addr
 AZ:FuncData
 zd:Addr
 AR:FuncData
 zi:Addr
 AW:FuncData
 za:Addr
 AN:FuncData
 qB:Addr
 qJ:FuncData
 zf:Addr
 AT:FuncData
 zg:Addr
 AU:FuncData
 ze:Addr
 AS:FuncData
 zp:Addr
 Ad:FuncData
 zo:Addr
 Ac:FuncData
 zn:Addr
 Ab:FuncData
 qA:Addr
 qI:FuncData
 zb:Addr
 AO:FuncData
 zq:Addr
 qL:FuncData
 uH:Addr
 mK:Addr
 uI:Addr
structure Txt (K:W.Frag) (mg:Str->Option Value) (t:Adr):Prop where
 x_gE:XClsOk K mg "GlassError" t.x_gE
 x_bB:XClsOk K mg "BadBits" t.x_bB
 i0_bB:W.findIn K ↥t.x_bB "__init__"=⇑⇑(.builtin "ValueError.__init__")
 e_bB:W.mroIn K t.x_bB ↥t.x_gE=⇑true
 k_BadBits_bB:W.kitOne K ↥t.x_bB ↥t.x_bB=⇑true
 v_bB:W.kitOne K ↥t.x_bB (.type "ValueError")=⇑true
 names_of:DefOk K mg "names_of" oY ["function"] t.zu t.Ag
 reads:DefOk K mg "reads" oE ["row"] t.A1 t.Al
 gives:DefOk K mg "gives" pS ["row"] t.zX t.AL
 atoms_of:DefOk K mg "atoms_of" om ["row"] t.zT t.AH
 each_once:DefOk K mg "each_once" nn ["names"] t.zV t.AJ
 ways:DefOk K mg "ways" nv ["rows"] t.A5 t.Ap
 begins_of:DefOk K mg "begins_of" pR ["rows"] t.zU t.AI
 firsts_behind:DefOk K mg "firsts_behind" p8 ["rows","begins"] t.zW t.AK
 uG:IniOk K t.bG "Flows.__init__" ny ["self","program"] t.zS t.AG
 is_leaf:DefOk K mg "is_leaf" ox ["one"] t.zY t.AM
 leaves:DefOk K mg "leaves" nh ["one"] t.qE t.qM
 number_bits:DefOk K mg "number_bits" oW ["number"] t.zw t.Ah
 plain_bits:DefOk K mg "plain_bits" oJ ["number","count"] t.A0 t.Ak
 place_bits:DefOk K mg "place_bits" nW ["place"] t.zy t.Aj
 reckoning_bits:DefOk K mg "reckoning_bits" nV ["one"] t.qG t.qN
 pack:DefOk K mg "pack" oF ["program","table"] t.zx t.Ai
 marks_bits:DefOk K mg "marks_bits" nr ["flows","marks"] t.zt t.Af
 mark_bits:DefOk K mg "mark_bits" mh ["flows","before","mark"] t.zr t.Ae
 view_bits:DefOk K mg "view_bits" mf ["places","ahead"] t.A3 t.An
 views_ahead:DefOk K mg "views_ahead" mi ["before","chain"] t.A4 t.Ao
 unpack:DefOk K mg "unpack" pc ["program","rows"] t.A2 t.Am
 zG:IniOk K t.c_bR "BitReader.__init__" mV ["self","flows","bits"] t.zL t.AA
 fg:MetOk K t.c_bR "take" "BitReader.take" mZ ["self","count"] t.zQ t.AE
 gh:MetOk K t.c_bR "number" "BitReader.number" oh ["self","least","most"] t.zN t.AC
 mJ:MetOk K t.c_bR "any_number" "BitReader.any_number" px ["self"] t.zJ t.A8
 uB:MetOk K t.c_bR "all_marks" "BitReader.all_marks" oS ["self"] t.zH t.A7
 uD:MetOk K t.c_bR "mark" "BitReader.mark" me ["self","before"] t.zM t.AB
 uC:MetOk K t.c_bR "frame" "BitReader.frame" nY ["self"] t.zK t.A9
 uF:MetOk K t.c_bR "view" "BitReader.view" my ["self","count","ahead"] t.zR t.AF
 uE:MetOk K t.c_bR "place_beside" "BitReader.place_beside" pf ["self","ahead"] t.zP t.AD
 j4:MetOk K t.c_bR "reckoning" "BitReader.reckoning" ph ["self","most"] t.pz t.qH
 fN:DefOk K mg "_law_cell" nH ["_law_script","_law_k"] t.zc t.AQ
 cV:DefOk K mg "_law_part" mx ["_law_cell_here","_law_j","_law_many"] t.zk t.AY
 j5:DefOk K mg "_law_name" oV ["_law_cell_here","_law_k"] t.zj t.AX
 Ax:DefOk K mg "_law_function" ot ["_law_cell_here","_law_k","_law_base","_law_big"] t.zh t.AV
 A':DefOk K mg "_law_program" pX ["_law_script","_law_big"] t.zm t.Aa
 mN:DefOk K mg "_law_tree" nB ["_law_cell_here","_law_many"] t.qD t.qK
 Az:DefOk K mg "_law_place" pQ ["_law_cell_here","_law_most"] t.zl t.AZ
 As:DefOk K mg "_law_chain" pM ["_law_cell_here","_law_built","_law_last"] t.zd t.AR
 Ay:DefOk K mg "_law_marks" oO ["_law_script","_law_at","_law_built","_law_many"] t.zi t.AW
 Aq:DefOk K mg "_law_all_marks" nP ["_law_script","_law_built","_law_big"] t.za t.AN
 mM:DefOk K mg "_law_digit_tree" pJ ["_law_number","_law_many"] t.qB t.qJ
 Av:DefOk K mg "_law_digit_mark" oI ["_law_number","_law_built","_law_last"] t.zf t.AT
 Aw:DefOk K mg "_law_digit_marks" oX ["_law_cells","_law_built"] t.zg t.AU
 Au:DefOk K mg "_law_digit_built" nG ["_law_cell_here","_law_many","_law_base"] t.ze t.AS
 B1:DefOk K mg "_law_told" pq ["_law_built","_law_marks_here"] t.zp t.Ad
 qO:DefOk K mg "_law_table" nN ["_law_built","_law_all_marks_here"] t.zo t.Ac
 B0:DefOk K mg "_law_renamed" mz ["_law_built","_law_base"] t.zn t.Ab
 mL:DefOk K mg "_law_alike" pw ["_law_found","_law_due"] t.qA t.qI
 Ar:DefOk K mg "_law_apart" mX ["_law_found","_law_due"] t.zb t.AO
 law:DefOk K mg "law" m5 ["_law_script"] t.zq t.qL
 df:ClsOk K mg "Flows" t.bG
 c7:ClsOk K mg "BitReader" t.c_bR
 mO:dj K t.bG "last"
 j6:dj K t.bG "number_of"
 kg:dj K t.bG "folded_of"
 kh:dj K t.bG "params_of"
 jl:dj K t.bG "rows_of"
 jk:dj K t.bG "names_in"
 ki:dj K t.bG "ways_in"
 jj:dj K t.c_bR "flows"
 ji:dj K t.c_bR "called"
 jh:dj K t.c_bR "bits"
 iY:dj K t.c_bR "at"
 A6:∃tk,mg "SIGN_BITS"=⇑(.int 4 tk)
 Ix:∃tk,mg "GONE_BITS"=⇑(.str "00" tk)
 Iu:∃tk,mg "AS_AHEAD_BITS"=⇑(.str "01" tk)
 J2:∃tk,mg "MOST_LEAVES"=⇑(.int 8 tk)
 J3:∃tk,mg "MOST_STATIONS"=⇑(.int 200 tk)
 Iz:∃tk,mg "MOST_FRAMES"=⇑(.int 3 tk)
 J0:∃tk,mg "MOST_GROUPS"=⇑(.int 16 tk)
 Iy:∃tk,mg "MOST_BOX"=⇑(.int 127 tk)
 Iw:mg "GIVING_KINDS"=⇑↥t.uH
 J5:∀H:Hp,aJ K H t.uH (K12.giving.map V.str)
 uJ:mg "SIGNS"=⇑↥t.mK
 t_SIGNS:∀H:Hp,aJ K H t.mK sgTup
 J4:∃o,K.lookup t.mK=⇑o/\o.cls=.type "tuple"/\o.dict=none
 Iv:mg "ATOM_PLACES"=⇑↥t.uI
 J6:rD K t.uI K12.tabl
 b_ValueError:mg "ValueError"=none
 b_len:mg "len"=none
 b_list:mg "list"=none
 b_tuple:mg "tuple"=none
 b_isinstance:mg "isinstance"=none
 b_range:mg "range"=none
 b_all:mg "all"=none
 b_enumerate:mg "enumerate"=none
 b_dict:mg "dict"=none
 b_str:mg "str"=none
 b_zip:mg "zip"=none
 b_int:mg "int"=none
 b_bool:mg "bool"=none
 b_min:mg "min"=none
 bl:∀(s:Shared) (u:Value),BindsTo s t.qL #[[u],[]] [("_law_script",u)]
variable {nm:Nat->Str} {H:Hp} {n:Nat}
section
variable {P:Program} {w:World} {K:MW} {mg:Str->JM MT} {base:Heap} {t:Adr}
abbrev CT (K:MW) (t:Adr):Sp:=λvs H Q _=>∃(x dx p:MV) (fns:List F2.Fd),vs=[↥x,↥p]/\H x=⇑(.ins t.bG dx [])/\aH K (ers x H) p (fns.map λf=>V.ref f.fa)/\fns≠[]/\fns.length<=12/\(∀f∈fns,F2.FnAt K (ers x H) f)/\(fns.map (·.name)).Nodup /\
 ∀H',Same (ers x H) H'->F2.FlowsAt K t.bG H' x fns->Q .non H'
abbrev HL (K:MW):Sp:=λvs H Q _=>∃(n c:Nat),vs=[.int n,.int c]/\c<=8/\∀H',Same H H'->Q (.str (tx (pb n c))) H'
abbrev GQ (K:MW):Sp:=λvs H Q _=>∃(n:Nat),vs=[.int n]/\n<8 ^ 16/\∀H',Same H H'->Q (.str (tx (nb n))) H'
abbrev qU (K:MW) (n:Nat):Sp:=λvs H Q _=>∃(tr:BTr) (v:V),vs=[v]/\cL tr<n/\DatV K H (db tr) v/\tok tr/\lv tr<=16/\∀H',Same H H'->Q (.str (tx (rb tr))) H'
abbrev BG (K:MW):Sp:=λvs H Q _=>∃(o:JM BTr) (v:V),vs=[v]/\DatV K H (bE o) v/\cS o/\∀H',Same H H'->Q (.str (tx (Pk.ob o))) H'
abbrev FY (K:MW):Sp:=λvs H Q _=>∃(p a:V) (pl ah:List (JM BTr)),vs=[p,a]/\DatV K H (d7 pl) p/\DatV K H (d7 ah) a/\(∀o∈pl,cS o)/\(∀o∈ah,cS o)/\pl.length<=24/\∀H',Same H H'->Q (.str (tx (vb ah pl))) H'
abbrev iA (m0:Mk) (ch:List (Nat×Nat)) (n:Nat):List PyData:=(List.range n).map λi=>d7 (cP m0 i (ch.getD i (0,0)).1)
abbrev IC (K:MW):Sp:=λvs H Q _=>∃(b0 c:V) (fns:List F2.Fd) (m0:Mk) (ch:List (Nat×Nat)) (z zz:MV) (oz ozz:HO),vs=[b0,c]/\H z=⇑oz/\H zz=⇑ozz/\(fns.map (·.name)).Nodup/\DatV K (ers zz (ers z H)) (eY (cU fns) m0) b0/\MOk fns.length m0/\DatV K H (.tuple (ch.map (g8 (cU fns)))) c/\(∀c∈ch,c.1<fns.length)/\ch.length<=3 /\
 ∀l xs H',Same H H'->H l=none->H' l=⇑(.lst xs)->DatAll K (ers zz (ers z H')) (iA m0 ch ch.length) xs->Q ↥l H'
abbrev Dp (K:MW) (t:Adr):Sp:=λvs H Q _=>∃(x:MV) (b0 v:V) (fns:List F2.Fd) (m0 m:Mk),vs=[↥x,b0,v]/\F2.FlowsAt K t.bG H x fns/\fns.length<=12/\DatV K H (eY (cU fns) m0) b0/\MOk fns.length m0/\DatV K H (eY (cU fns) m) v/\MOk fns.length m/\∀H',Same H H'->Q (.str (tx (mb m0 m))) H'
abbrev IN (K:MW) (t:Adr):Sp:=λvs H Q _=>∃(x:MV) (v:V) (fns:List F2.Fd) (ms:List Mk),vs=[↥x,v]/\F2.FlowsAt K t.bG H x fns/\fns.length<=12/\DatV K H (.list (ms.map (eY (cU fns)))) v/\ms.length<=200/\(∀m∈ms,MOk fns.length m)/\∀H',Same H H'->Q (.str (tx (c6 ms))) H'
abbrev Bu (K:MW):Sp:=λvs H Q _=>∃(p:MV) (v:V) (fns:List F2.Fd) (tb:List (Str×List Mk)),vs=[↥p,v]/\aH K H p (fns.map λf=>V.ref f.fa)/\fns≠[]/\fns.length<=12/\(∀f∈fns,F2.FnAt K H f)/\(fns.map (·.name)).Nodup/\DatV K H (.list (tb.map (fK (cU fns)))) v/\tb.length<=12/\(∀e∈tb,e.2.length<=200/\∀m∈e.2,MOk fns.length m) /\
 ∀l H',Same H H'->H l=none->H' l=⇑(.lst (tb.map λe=>V.str (tx (c6 e.2))))->Q ↥l H'
abbrev tbl (nm:Nat->Str) (aT:List (List Mk)):List (Str×List Mk):=(List.range aT.length).map λk=>(nm k,aT.getD k [])
def le (nm:Nat->Str) (aT:List (List Mk)):(tbl nm aT).length=aT.length:=by unfold tbl; rw[J7,JY]
def sX {aT:List (List Mk)} {k:Nat} {ms:List Mk} (h:aT[k]?=⇑ms):(tbl nm aT)[k]?=⇑(nm k,ms):=by unfold tbl;rw[JC,LD (JF.mp h).1];show ⇑(nm k,aT.getD k [])=_;rw[JH,h];rfl
def jo {aT:List (List Mk)} {e:Str×List Mk} (h:e∈tbl nm aT):e.2∈aT/\∃k,k<aT.length/\e.1=nm k:=by unfold tbl at h;let#[k,hk,rfl]:=JW.mp h;have hk:=KA.mp hk;show#[?_,k,hk,rfl];show aT.getD k []∈aT;rw[JH,JA hk];exact K2 hk
def Hs (nm:Nat->Str) (aT:List (List Mk)) (f:List Mk->V):((tbl nm aT).map λe=>f e.2)=aT.map f:=by
 refine Lz λk=>?_;rw[JC,JC];cases h:aT[k]? with
 | none=>rw[Jz (by rw[le]; exact Kr.mp h)]; rfl
 | some ms=>rw[sX h]; rfl
def ur {T:MV} {aT:List (List Mk)} {xs:List V} (h1:aH K H T xs) (hl:xs.length=aT.length) (h2:∀(k:Nat) ms x,aT[k]?=⇑ms->xs[k]?=⇑x->DatV K H (fK nm (nm k,ms)) x):DatV K H (.list ((tbl nm aT).map (fK nm))) ↥T:=by
 refine bO h1 (lW (by rw[J7,le,hl]) λk d x hd hx=>?_);have hk:k<aT.length:=by rw[<- hl]; exact(JF.mp hx).1
 have hm:=JA hk;rw[JC,sX hm] at hd;cases hd;exact h2 k _ x hm hx
abbrev DJ (K:MW):Sp:=λvs H Q _=>∃(tr:BTr) (v:V),vs=[v]/\DatV K H (db tr) v/\tok tr/\∀H',Same H H'->Q (.bl (decide (cL tr=0))) H'
abbrev sW (K:MW) (n:Nat):Sp:=λvs H Q _=>∃(tr:BTr) (v:V),vs=[v]/\cL tr<n/\DatV K H (db tr) v/\tok tr/\∀H',Same H H'->Q (.int (lv tr)) H'
abbrev iG {α:Type} (K:MW) (t:Adr) (H:Hp) (R:Rdr) (fns:List F2.Fd) (o:JM (α×List Nat)) (res:α->V->Hp->Prop) (Q:VK) (E:XK):Prop :=
 (∀a r',o=⇑(a,r')->∀v H',Same (ers R.x H) H'->RdAt K t.c_bR t.bG H' R fns r'->res a v H'->Q v H')/\(o=none->∀H',Same (ers R.x H) H'->E ↥t.x_bB none H')
abbrev isL (K:MW) (R:Rdr) (H:Hp) (pl:List (JM BTr)) (v:V) (H':Hp):Prop:=∃lv xs,v=↥lv/\H lv=none/\H' lv=⇑(.lst xs)/\DatAll K (ers R.x H') (pl.map bE) xs
abbrev isI (n:Nat) (v:V) (_:Hp):Prop:=v=.int n
abbrev qm {α:Type} (K:MW) (R:Rdr) (f:α->PyData) (a:α) (v:V) (H:Hp):Prop:=DatV K (ers R.x H) (f a) v
abbrev GK (K:MW) (t:Adr):Sp:=λvs H Q E=>∃(x dx fl:MV) (fns:List F2.Fd) (l:List Nat),vs=[↥x,↥fl,.str (tx l)]/\H x=⇑(.ins t.c_bR dx [])/\F2.FlowsAt K t.bG (ers x H) fl fns/\RlOk (b9 fns) (cE fns)/\l.length<=1000000 /\
 (bQ l->∀cl H',Same (ers x H) H'->RdAt K t.c_bR t.bG H' #[x,dx,fl,cl] fns l->Q .non H')/\(¬ bQ l->∀H',Same (ers x H) H'->E ↥t.x_bB none H')
abbrev Gi (K:MW) (t:Adr):Sp:=λvs H Q E=>∃(R:Rdr) (fns:List F2.Fd) (r:List Nat) (c:Nat),vs=[↥R.x,.int c]/\c<=4/\RdAt K t.c_bR t.bG H R fns r/\iG K t H R fns (jU c r) (λa v _=>v=.str (tx a)) Q E
abbrev EZ (K:MW) (t:Adr):Sp:=λvs H Q E=>∃(R:Rdr) (fns:List F2.Fd) (r:List Nat),vs=[↥R.x]/\RdAt K t.c_bR t.bG H R fns r/\iG K t H R fns (cw 16 0 0 r) isI Q E
abbrev HH (K:MW) (t:Adr):Sp:=λvs H Q E=>∃(R:Rdr) (fns:List F2.Fd) (r:List Nat) (lo hi:Nat),vs=[↥R.x,.int lo,.int hi]/\RdAt K t.c_bR t.bG H R fns r/\iG K t H R fns (cR lo hi r) isI Q E
abbrev CV (K:MW) (t:Adr):Sp:=λvs H Q E=>∃(R:Rdr) (fns:List F2.Fd) (r:List Nat),vs=[↥R.x]/\RdAt K t.c_bR t.bG H R fns r/\iG K t H R fns (gV (b9 fns) r) (qm K R (g8 (cU fns))) Q E
abbrev sw (K:MW) (t:Adr) (n:Nat):Sp:=λvs H Q E=>∃(R:Rdr) (fns:List F2.Fd) (r:List Nat) (f most:Nat),vs=[↥R.x,.int most]/\f<n/\most<=f/\most<=8/\RdAt K t.c_bR t.bG H R fns r/\iG K t H R fns (bZ f most r) (qm K R db) Q E
abbrev CK (K:MW) (t:Adr):Sp:=λvs H Q E=>∃(R:Rdr) (fns:List F2.Fd) (r:List Nat) (a:JM (JM BTr)) (u:V),vs=[↥R.x,u]/\DatV K (ers R.x H) (d7 a.toList) u/\(∀o∈a,cS o)/\RdAt K t.c_bR t.bG H R fns r/\iG K t H R fns (iM a r) (qm K R bE) Q E
abbrev Gw (K:MW) (t:Adr):Sp:=λvs H Q E=>∃(R:Rdr) (fns:List F2.Fd) (r:List Nat) (n:Nat) (ah:List (JM BTr)) (u:V),vs=[↥R.x,.int n,u]/\n<=24/\DatV K (ers R.x H) (d7 ah) u/\(∀o∈ah,cS o)/\RdAt K t.c_bR t.bG H R fns r/\iG K t H R fns (il ah n r) (isL K R H) Q E
abbrev Gm (K:MW) (nm:Nat->Str) (R:Rdr) (H:Hp) (mk:Mk) (v:V) (H':Hp):Prop:=∃m:Ma,v=↥m.a/\m.mk'=mk/\MaAt K nm H' m/\New (ers R.x H) (dw m)
abbrev DL (K:MW) (nm:Nat->Str) (R:Rdr) (H:Hp) (ms:List Mk) (v:V) (H':Hp):Prop:=∃(l:MV) (mas:List Ma),v=↥l/\mas.map Ma.mk'=ms/\H' l=⇑(.lst (mas.map λm=>V.ref m.a))/\(∀m∈mas,MaAt K nm H' m)/\New (ers R.x H) (l::mas.flatMap dw)
abbrev FD (K:MW) (t:Adr):Sp:=λvs H Q E=>∃(R:Rdr) (fns:List F2.Fd) (r:List Nat) (m0:Mk) (u:V),vs=[↥R.x,u]/\DatV K (ers R.x H) (eY (cU fns) m0) u/\MOk fns.length m0/\RdAt K t.c_bR t.bG H R fns r/\iG K t H R fns (gI (b9 fns) (cE fns) m0 r) (Gm K (cU fns) R H) Q E
abbrev BO (K:MW) (t:Adr):Sp:=λvs H Q E=>∃(R:Rdr) (fns:List F2.Fd) (r:List Nat),vs=[↥R.x]/\RdAt K t.c_bR t.bG H R fns r/\iG K t H R fns (jD (b9 fns) (cE fns) r) (DL K (cU fns) R H) Q E
abbrev DK (K:MW) (t:Adr):Sp:=λvs H Q E=>∃(p rl:MV) (fns:List F2.Fd) (ls:List (List Nat)),vs=[↥p,↥rl]/\aH K H p (fns.map λf=>V.ref f.fa)/\(∀f∈fns,F2.FnAt K H f)/\(fns.map (·.name)).Nodup/\RlOk (b9 fns) (cE fns)/\aH K H rl (dI ls)/\(∀l∈ls,l.length<=1000000) /\
 (∀m',gv fns ls=⇑m'->∀T es H',Same H H'->FndAt K (cU fns) H' T es->aT es=m'->New H (T::es.flatMap di)->Q ↥T H')/\(gv fns ls=none->∀H',Same H H'->E ↥t.x_bB none H')
def k9 {T:MV} {es:List En} (h:FndAt K nm H T es):DatV K H (.list ((tbl nm (aT es)).map (fK nm))) ↥T:=by
 refine ur (aH.of h.ls) (by unfold aT; rw[J7,J7]) λk ms x hm hx=>?_;unfold aT at hm;rw[JC] at hm hx;cases he:es[k]? with
 | none=>rw[he] at hm; cases hm
 | some en =>
   rw[he] at hm hx;cases hm;cases hx;have hE:=h.es k en he;refine cQ (kR<*hE.tu) (dQ _) (bO (aH.of hE.ls) ?_);rw[Jm];refine lW (by rw[J7,J7]) λi d x hd hx=>?_;rw[JC] at hd hx;cases hw:en.ms[i]? with
   | none=>rw[hw] at hd; cases hd
   | some m =>
     rw[hw] at hd hx;cases hd;cases hx;exact(hE.ms m (J9 hw)).dat kR λ_ _=>rfl
abbrev Ca (K:MW):Sp:=λvs H Q _=>∃(a:MV) (ns:List Int) (k:Int),vs=[↥a,.int k]/\aH K H a (ns.map V.int)/\ns.length<=63/\0<=k/\k<1000/\Q (.int (dG ns k)) H
abbrev Ii (K:MW):Sp:=λvs H Q _=>∃(c j m:Int),vs=[.int c,.int j,.int m]/\0<=j/\0<m/\∀H',Same H H'->Q (.int (bM c j m)) H'
abbrev HW (K:MW):Sp:=λvs H Q _=>∃(b k:Int),vs=[.int b,.int k]/\∀H',Same H H'->Q (.str (aj b k)) H'
abbrev sL (K:MW) (n:Nat):Sp:=λvs H Q _=>∃(c:Int) (m:Nat),vs=[.int c,.int m]/\m<n/\0<m/\∀tr v H',Same H H'->DatV K H' (db tr) v->tok tr->jY tr->lv tr=m->Q v H'
structure Blt (K:W.Frag) (H:Hp) (b:Addr) (bs:List Bd):Prop where
 bt:BuiltAt K H b bs
 cn:∀x∈bs,x.cnt=(F2.nms x.f).length
def Blt.mono {H H':Hp} {b:MV} {bs:List Bd} (h:Blt K H b bs) (e:Same H H'):Blt K H' b bs:=#[h.bt*>e,h.cn]
abbrev bh (bs:List Bd):List Nat:=b9 (bs.map (·.f))
abbrev dW (bs:List Bd):Nat->Nat:=cE (bs.map (·.f))
abbrev ca (bs:List Bd):Nat->Str:=cU (bs.map (·.f))
def j' {b:MV} {bs:List Bd} (h:Blt K H b bs):RlOk (bh bs) (dW bs):=by
 have hl:(bh bs).length=bs.length:=by unfold bh b9; rw[J7,J7]
 show#[?_,by rw[hl]; exact h.bt.n12,λn hn=>?_,λk=>?_]
 . rw[hl];cases e:bs with
   | nil=>exact absurd e h.bt.n0
   | cons x l=>rw[JX]; lia
 . unfold bh b9 at hn;rw[Jm] at hn;let#[x,hx,rfl]:=JW.mp hn;have hE:=h.bt.all x hx;show#[?_,hE.fn.len];show 1<=x.f.rs.length;cases e:x.f.rs with
   | nil=>exact absurd e hE.ne
   | cons y l=>rw[JX]; lia
 . show((bs.map (·.f))[k]?.map λf=>(F2.nms f).length).getD 0<=24;rw[JC];cases e:bs[k]? with
   | none=>exact Jd _
   | some x =>
     have hm:=J9 e;show(F2.nms x.f).length<=24;rw[<- h.cn x hm];exact(h.bt.all x hm).cn
def xy {b:Int} (h:n<=26):((List.range n).map λj:Nat=>aj b (j:Int)).Nodup:=by
 refine Ly.mpr (LK (λ{i j} hi hj hlt e=>?_) LV);have h1:=KA.mp hi;have h2:=KA.mp hj;have:=uA e
 lia
abbrev Ez (K:MW):Sp:=λvs H Q _=>∃(c:Int) (n:Nat),vs=[.int c,.int n]/\1<=n/\n<=8/\∀o v H',Same H H'->DatV K H' (bE o) v->cp o->Q v H'
abbrev Ci (K:MW):Sp:=λvs H Q _=>∃(c k b:Int) (big:Bool),vs=[.int c,.int k,.int b,.bl big]/\0<=k/\k<100/\∀(x:Bd) H',Same H H'->H x.e=none->EntAt K H' x->x.f.name=aj b (k+3)->H' x.e=⇑(.lst [↥x.f.fa,.int x.cnt])->x.cnt=(F2.nms x.f).length->(big=true->x.cnt<=1)->Q ↥x.e H'
abbrev FJ (K:MW):Sp:=λvs H Q _=>∃(a:MV) (ns:List Int) (big:Bool),vs=[↥a,.bl big]/\aH K H a (ns.map V.int)/\ns.length<=63/\∀b bs H',Same H H'->Blt K H' b bs->(big=true->∀x∈bs,x.cnt<=1)->Q ↥b H'
structure MG (rl:List Nat) (cn:Nat->Nat) (m:Mk):Prop where
 l3:m.ch.length<=3
 ix:∀c∈m.ch,c.1<rl.length/\c.2<rl.getD c.1 0
 vl:m.vs.length=m.ch.length
 cn:tP cn m
 ok:∀v∈m.vs,∀o∈v,cp o
def MG.fit {rl:List Nat} {cn:Nat->Nat} {m:Mk} (h:MG rl cn m) (h1:1<=m.ch.length):MFit rl cn m:=#[h1,h.l3,h.ix,h.vl,h.cn,h.ok]
def MG.of {rl:List Nat} {cn:Nat->Nat} {m:Mk} (h:MFit rl cn m):MG rl cn m:=#[h.l3,h.ix,h.vl,h.cn,h.ok]
def mg0 (rl:List Nat) (cn:Nat->Nat):MG rl cn cY:=#[Jd _,(λc h=>by cases h),rfl,DA _,(λv h=>by cases h)]
def FF {m:Mk} (h:MOk n m):ag 11 (fU m):=ag.tuple (lT (ag.list (n:=9) (gN λc _=>ag.tuple (n:=8) (lT (.int _) (.int _)))) (ag.list (gN λv hv=>mY (h.ok v hv))))
abbrev jc (ms:List Mk):PyData:=.list (ms.map fU)
abbrev gD (bs:List Bd) (ms:List Mk):Prop:=1<=ms.length/\ms.length<=200/\∀m∈ms,MFit (bh bs) (dW bs) m
abbrev CY (K:MW):Sp:=λvs H Q _=>∃(c:Int) (b:MV) (bs:List Bd) (v:V) (la:List (Nat×Nat)),vs=[.int c,↥b,v]/\Blt K H b bs/\DatV K H (.list (la.map ii)) v/\(∀c∈la,c.1<bs.length)/\la.length<=3 /\
 ∀(ch:List (Nat×Nat)) l xs H',Same H H'->H l=none->H' l=⇑(.lst xs)->DatAll K (ers l H') (ch.map ii) xs->1<=ch.length->ch.length<=3->(∀c∈ch,c.1<bs.length/\c.2<(bh bs).getD c.1 0)->Q ↥l H'
abbrev Ft (K:MW):Sp:=λvs H Q _=>∃(a:MV) (ns:List Int) (k:Int) (b:MV) (bs:List Bd) (n:Nat),vs=[↥a,.int k,↥b,.int n]/\aH K H a (ns.map V.int)/\ns.length<=63/\0<=k/\k<100/\Blt K H b bs/\1<=n/\n<=200/\∀ms v H',Same H H'->DatV K (nwL H H') (jc ms) v->ms.length=n->gD bs ms->Q v H'
abbrev HP (K:MW):Sp:=λvs H Q _=>∃(a:MV) (ns:List Int) (b:MV) (bs:List Bd) (big:Bool),vs=[↥a,↥b,.bl big]/\aH K H a (ns.map V.int)/\ns.length<=63/\Blt K H b bs /\
 ∀(aT:List (List Mk)) v H',Same H H'->DatV K H' (.list (aT.map jc)) v->aT.length=bs.length->(∀ms∈aT,gD bs ms/\(big=false->ms.length<=16))->Q v H'
abbrev rC (K:MW) (n:Nat):Sp:=λvs H Q _=>∃(c:Int) (m:Nat),vs=[.int c,.int m]/\m<n/\0<m/\m<=8/\∀(p:MV) tr v (c':Int) H',Same H H'->aJ K H' p [v,.int c']->DatV K H' (db tr) v->tok tr->jY tr->lv tr=m->Q ↥p H'
abbrev Hu (K:MW):Sp:=λvs H Q _=>∃(c:Int) (b:MV) (bs:List Bd) (u:V) (m0:Mk),vs=[.int c,↥b,u]/\Blt K H b bs/\DatV K H (fU m0) u/\MG (bh bs) (dW bs) m0 /\
 ∀m v H',Same H H'->DatV K (nwL H H') (fU m) v->MFit (bh bs) (dW bs) m->Q v H'
abbrev DH (K:MW):Sp:=λvs H Q _=>∃(cl b:MV) (bs:List Bd) (cs:List Int),vs=[↥cl,↥b]/\Blt K H b bs/\aH K H cl (cs.map V.int)/\bs.length<=cs.length/\cs.length<=16 /\
 ∀(aT:List (List Mk)) v H',Same H H'->DatV K H' (.list (aT.map jc)) v->aT.length=bs.length->(∀ms∈aT,gD bs ms/\ms.length<=16)->Q v H'
abbrev BM (K:MW):Sp:=λvs H Q _=>∃(c b:Int) (n:Nat),vs=[.int c,.int n,.int b]/\1<=n/\n<=12/\∀u bs H',Same H H'->Blt K H' u bs->bs.length=n->Q ↥u H'
abbrev E5 (K:MW):Sp:=λvs H Q _=>∃(b:MV) (bs:List Bd) (v:V) (ms:List Mk),vs=[↥b,v]/\Blt K H b bs/\DatV K H (jc ms) v/\gD bs ms/\∀u H',Same H H'->DatV K (nwL H H') (.list (ms.map (eY (ca bs)))) u->Q u H'
abbrev Eb (K:MW):Sp:=λvs H Q _=>∃(b:MV) (bs:List Bd) (v:V) (aT:List (List Mk)),vs=[↥b,v]/\Blt K H b bs/\DatV K H (.list (aT.map jc)) v/\aT.length=bs.length/\(∀ms∈aT,gD bs ms) /\
 ∀u H',Same H H'->DatV K (nwL H H') (.list ((tbl (ca bs) aT).map (fK (ca bs)))) u->Q u H'
abbrev DP (K:MW):Sp:=λvs H Q _=>∃(b:MV) (bs:List Bd) (c:Int),vs=[↥b,.int c]/\Blt K H b bs/\∀b' bs' H',Same H H'->Blt K H' b' bs'->bs'.length=bs.length->bh bs'=bh bs->dW bs'=dW bs->Q ↥b' H'
inductive Pl:Nat->PyData->Prop
 | non (n:Nat):Pl n .none
 | int (n:Nat) (i:Int):Pl n (.int i)
 | str (n:Nat) (s:Str):Pl n (.str s)
 | lst {n:Nat} {ds:List PyData} (l:ds.length<=1000) (h:∀d∈ds,Pl n d):Pl (n+1) (.list ds)
 | tup {n:Nat} {ds:List PyData} (l:ds.length<=1000) (h:∀d∈ds,Pl n d):Pl (n+1) (.tuple ds)
def Pl.mono {d:PyData} (h:Pl n d):∀{m:Nat},n<=m->Pl m d:=by
 induction h with
 | non n=>intro m _; exact .non m
 | int n i=>intro m _; exact .int m i
 | str n s=>intro m _; exact .str m s
 | lst l h ih =>
   intro m hm;obtain⟨m,rfl⟩:∃k,m=k+1:=#[m - 1,∅]
   exact .lst l λd hd=>ih d hd ∅
 | tup l h ih =>
   intro m hm;obtain⟨m,rfl⟩:∃k,m=k+1:=#[m - 1,∅]
   exact .tup l λd hd=>ih d hd ∅
def mI {a b:PyData} (ha:Pl n a) (hb:Pl n b):Pl (n+1) (.tuple [a,b]):=.tup (show 2<=1000 by decide) λd hd=>by
 rcases JS.mp hd with e|hd
 . rw[e]; exact ha
 . rw[JK.mp hd]; exact hb
def tD:∀t:BTr,Pl (cL t+1) (db t)
 | .box k=>mI (.str _ _) (.int _ _)
 | .num k=>mI (.str _ _) (.int _ _)
 | .op i l r=>.tup (show 3<=1000 by decide) λd hd=>by
   have m1:cL l+1<=max (cL l) (cL r)+1:=by lia
   have m2:cL r+1<=max (cL l) (cL r)+1:=by lia
   rcases JS.mp hd with e|hd
   . rw[e]; exact .str _ _
   . rcases JS.mp hd with e|hd
     . rw[e]; exact(tD l).mono m1
     . rw[JK.mp hd]; exact(tD r).mono m2
def Cp {o:JM BTr} (h:cS o):Pl 9 (bE o):=by
 cases o with
 | none=>exact .non _
 | some t=>exact(tD t).mono (by have:=k8 t; have:=h.2; lia)
def md {α:Type} {f:α->PyData} {l:List α} (hl:l.length<=1000) (h:∀a∈l,Pl n (f a)):Pl (n+1) (.list (l.map f)):=.lst (by rw[J7]; exact hl) λd hd=>by let#[a,ha,rfl]:=JW.mp hd;exact h a ha
def D0 {aT:List (List Mk)} (h:∀ms∈aT,ms.length<=200/\∀m∈ms,MOk n m) (hl:aT.length<=12):Pl 15 (.list ((tbl nm aT).map (fK nm))) :=
 md (by rw[le]; lia) λe he=>by have hm:=h e.2 (jo he).1;refine mI (.str _ _) (md ∅ λm hmm=>?_);have hk:=hm.2 m hmm;refine mI (.tup (n:=10) (by rw[J7]; have:=hk.l3; lia) λd hd=>?_) (md (by rw[hk.vl]; have:=hk.l3; lia) λv hv=>md (by have:=hk.c24 v hv; lia) λo ho=>Cp (hk.ok v hv o ho));let#[c,_,rfl]:=JW.mp hd;exact mI (n:=9) (.str _ _) (.int _ _)
def Ht (ns:List Int) (i j:Nat):∃ys:List Int,fV (ns.map V.int) ⇑(i:Int) ⇑(j:Int)=ys.map V.int/\ys.length<=j - i:=by unfold fV;rw[HT.sIx_nat,HT.sIx_nat,<- List.map_drop,<- List.map_take];show#[5,by rw[Jp]; lia]
def ux {b:MV} {bs:List Bd} {ms:List Mk} (hB:Blt K H b bs) (h:gD bs ms) (hc:ms.length<=16\/∀x∈bs,x.cnt<=1):(c6 ms).length<=1000000:=by
 have ok:=j' hB;refine uk (λm hm=>(h.2.2 m hm).mok ok) ok.n12 h.2.1 (hc.imp id λhx m hm v hv=>?_);have f:=h.2.2 m hm;let#[l,hl]:=K0 hv;have lc:l<m.ch.length:=by rw[<- f.vl]; exact(JF.mp hl).1
 have c1:=(f.ix _ (K2 lc)).1;rw[f.cn l _ v (JA lc) hl];have c2:m.ch[l].1<bs.length:=by unfold bh b9 at c1; rw[J7,J7] at c1; exact c1
 have hb:=K2 c2;show cE (bs.map (·.f)) m.ch[l].1<=1;rw[lX (f:=bs[m.ch[l].1].f) (by rw[JC,JA c2]; rfl),<- hB.cn _ hb];exact hx _ hb
def Gd:tx (c6 [#[[(0,0)],[[⇑(.box 0)]]]])=("0001000100000000100000":Str):=by
 have n0:nb 0=[48,48,48,48]:=by rw[iK #[]]; decide
 have n1:nb 1=[48,48,48,49]:=by rw[iK #[]]; decide
 have:c6 [⟨[(0,0)],[[⇑(.box 0)]]⟩]=nb 1++(nb 1++(nb 0++nb 0)++(49::48::nb 0)):=by simp [c6,eZ,mb,fB,wB,vb,i6,gX,lk,cP,lO,dS,cY,j3,iC,Pk.ob,rb,List.range,List.range.loop]
 rw[this,n0,n1];rfl
abbrev sZ (K:MW) (n:Nat):Sp:=λvs H Q _=>∃(d:PyData) (u v:V) (m:Nat),vs=[u,v]/\m<n/\Pl m d/\DatV K H d u/\DatV K H d v/\∀H',Same H H'->Q (.bl true) H'
abbrev CQ (K:MW):Sp:=λvs H Q _=>∃(T:MV) (v:V) (es:List En) (bs:List Bd) (nm:Nat->Str) (H0:Hp),vs=[↥T,v]/\FndAt K nm H T es/\New H0 (cons T es++(fL es).map (·.p))/\Same H0 H/\DatV K H0 (.list ((tbl nm (aT es)).map (fK nm))) v/\es.length<=12/\(∀ms∈aT es,gD bs ms)/\RlOk (bh bs) (dW bs) /\
 ∀H' n,Apd H (fL es) n H'->Q (.bl true) H'
abbrev sp_law (K:MW):Sp:=λvs H Q _=>∃(a:MV) (ns:List Int),vs=[↥a]/\aH K H a (ns.map V.int)/\ns.length<=63/\∀H',Q (.bl true) H'
abbrev Fc (K:MW):List V->Hp->VK->Prop:=λxs H Q=>∃x c t b,xs=[x,.ty c]/\TyOf K H x t/\W.kitOne K t (.type c)=⇑b/\Q (.bl b) H
abbrev Hv (K:MW):List V->Hp->VK->Prop:=λxs H Q=>∃p ys,xs=[↥p]/\(aH K H p ys\/aJ K H p ys)/\∀l,H l=none->Q ↥l (upd H l (.lst ys))
end
end K84
local macro_rules|`($a>=>$b)=>`(L2.aC $a $b rfl)|`($f<$>$a<*>$b)=>`(@L2.aK _ _ _ _ _ _ _ _ $f $a $b)
local macro_rules|`(~~~$a)=>`(@L2.aL _ _ _ (@L2.aa _ _ _ _ $a))
namespace K84
open PySem L2 K12
section
variable {P:Program} {w:World} {K:MW} {mg:Str->JM MT} {base:Heap} {t:Adr}
def Gg:FnScope ["names"] ["names"] (ai nn):=by walk_at "s"
def yN (T:Txt K mg t):FnOk P w K mg base CX0 1 t.zV t.AJ ["names"] (K12.sp_each_once K):=by
 refine T.each_once.F.ok Gg (λvs H Q E h=>?_) (λcdv A outer s H vs Q E hr h=>?_)
 . let#[_,_,rfl,_]:=h;rfl
 . let#[p0,ss,rfl,hS,hl,q]:=h;show#[_,(aI (@aa _ _ _ _ (eO (uX rfl) 0x1 T.b_list iX ((eO (De rfl) 0x1 T.b_dict BL ((eJ (N':=["name"]) (js:=[none]) (by kernel_rfl) rfl (fe (aB 0)) dJ (λ_ _ _ _=>(aW (i:=0) (show(["name"]:List Str).Nodup by decide +kernel) rfl 0x0 (.inr rfl))) (λ_ _ _ _=>cm) (λ_ _ _ _=>(aw (aB 0>=>gC>=>aD))))>=>aD))>=>aD))) ax),?_];show#[5,p0,rfl,#[_,hS],λp hp=>ie (xs:=ss.map V.str) (by rw[J7]; lia) (λi acc H2=>i<=ss.length/\Same H H2/\H2 p=⇑(.lst acc)/\∃ps:List MV,acc=ps.map V.ref/\Paired (λa (kv:aP×V)=>aJ K H2 a [kV kv.1,kv.2]) ps (cq (ss.take i))) #[Jd _,Same.new hp,aF,[],rfl,.nil] ?_ ?_ ?_]
   . rintro i acc H2 hi ⟨hi',s2,h2,ps,rfl,hps⟩;show#[h2,?_,s2.seq hS];have:=Paired.length hps;rw[J7,this];unfold cq;rw[J7,Jp]
     lia
   . rintro i x acc H2 hx ⟨hi',s2,h2,ps,rfl,hps⟩;have hi:i<ss.length:=by have:=(JF.mp hx).1;rw[J7] at this;exact this
     rw[JC] at hx;have hx:V.str ss[i]=x:=by simpa [hi] using hx
     subst hx;show#[5,(by show 2<=sizeLine; decide),λa ha=>?_];have hap:a≠p:=λz=>by rw[z,h2] at ha; cases ha
     have e:(upd H2 a (.tup [V.str ss[i],V.bl true])) p=⇑(.lst (ps.map V.ref)):=by rw[aR hap.symm]; exact h2
     show#[e,hi,?_,aF,ps++[a],by rw[JB]; rfl,?_]
     . exact(s2\(Same.new ha)).upd hp
     . have e2:cq (ss.take (i+1))=cq (ss.take i)++[(Sum.inr ss[i],V.bl true)]:=by unfold cq;rw[Jr,JB];simp [hi]
       rw[e2];refine Paired.snoc (Paired.mapP hps λb kv z=>DN ((Same.new ha)<*z) e) ?_;exact aJ.of (by rw[aR hap]; exact aF)
   . rintro acc H2 ⟨hi',s2,h2,ps,rfl,hps⟩;have e0:ss.take (ss.map V.str).length=ss:=by rw[J7]; exact Jh
     rw[e0] at hps;show#[p,ps,cq ss,rfl,aH.of h2,hps,by unfold cq; rw[J7]; lia,λd hd=>?_];rw[Gu];show#[d,cq (onceL ss),rfl,aF,λl hl'=>?_];rw[Ff];exact q l _ ((s2\(Same.new hd)).trans (Same.new hl')) (s2.free ((Same.new hd).free hl')) aF
def ES:FnScope ["row"] ["row"] (ai pS):=by walk_at "s"
def F1 (T:Txt K mg t):FnOk P w K mg base CX0 1 t.zX t.AL ["row"] (K12.sp_gives K):=by
 refine T.gives.F.ok ES (λvs H Q E h=>?_) (λcdv A outer s H vs Q E hr h=>?_)
 . let#[_,_,_,_,rfl,_]:=h;rfl
 . let#[r,xs,g,as,rfl,hr,hrow,q]:=h;show#[_,(aI (@aa _ _ _ _ (@mG _ _ _ _ _ _ _ _ (aq ju (aM 0x4 (aB 0) aE 0x5) (lE T.Iw) (by with_unfolding_all rfl)) (aM 0x4 (aB 0) aE 0x5) jG)) ax),?_];let#[kd,h0,hc]:=Gj hrow;show#[5,r,xs,19,hr,h0,t.uH,giving.map V.str,rfl,.inr (T.J5 H),rfl,ID,5,?_];rcases hc with⟨x,rfl,e,h1⟩|⟨rfl,e⟩
   . exact az e #[5,r,xs,19,hr,h1,q]
   . exact au (B8 e) q
def B6:FnScope ["row"] ["row"] (ai om):=by walk_at "s"
def FP (T:Txt K mg t):FnOk P w K mg base CX0 1 t.zT t.AH ["row"] (K12.sp_atoms_of K):=by
 refine T.atoms_of.F.ok B6 (λvs H Q E h=>?_) (λcdv A outer s H vs Q E hr h=>?_)
 . let#[_,_,_,_,rfl,_]:=h;rfl
 . let#[r,xs,g,as,rfl,hr,hrow,hl,q]:=h;show#[_,(aI (al (aq bq (aM 0x4 (aB 0) aE 0x5) ak (ac _)) (~~~(eO lI 0x1 T.b_list iX ((aM 0x4 (aB 0) aE 0x5)>=>aD))) ax) (~~~(eJ (N':=["place","row"]) (js:=[none,some 0]) (by kernel_rfl) rfl (sv (aM Bh (lE T.Iv) (aM 0x4 (aB 0) aE 0x5) 0x5)) dJ (λ_ _ _ _=>(aW (i:=0) (show(["place","row"]:List Str).Nodup by decide +kernel) rfl 0x0 (.inr rfl))) (λ_ _ _ _=>cm) (λ_ _ _ _=>(aM 0x4 (aB 1) (aB 0) 0x5))))),?_];let#[kd,h0,hc]:=HU hrow;show#[5,r,xs,19,hr,h0,13,?_];rcases hc with⟨rfl,p,h3,hp⟩|⟨hne,pl,hk,hpl,hat⟩
   . exact az (Jg rfl) #[5,r,xs,19,hr,h3,p,as,rfl,.inr hp,λl hl=>q l _ (Same.new hl) hl aF]
   . refine au (λh=>hne (V.str.inj (dX h))) ?_;show#[5,r,xs,19,hr,h0,t.uI,tabl,19,T.J6,hk,λa ha=>?_];show#[a,rfl,#[_,ha],λp hp=>EB (xs:=pl.map V.int) (by rw[J7]; lia) (λi acc H2=>acc=as.take i/\H2=upd H p (.lst acc)) #[7] ?_ ?_ ?_]
     . rintro i acc H2 hi ⟨rfl,rfl⟩;show#[aF,by rw[Jp]; lia,(Same.new hp)<*ha]
     . rintro i x acc H2 hx ⟨rfl,rfl⟩;have hi:i<as.length:=by
         have:=(JF.mp hx).1;rw[J7] at this
         lia
       let#[p1,hp1,hp2]:=hat i as[i] (by simp [hi]);rw[JC,hp1] at hx;have hx:V.int p1=x:=↑hx
       subst hx;show#[21,r,xs,19,(Same.new hp)<*hr,hp2,aF,?_,rW];rw[Jr];simp [hi]
     . rintro acc H2 ⟨rfl,rfl⟩;have e:(as.take (pl.map V.int).length)=as:=by rw[J7,hpl]; exact Jh
       exact q p _ (Same.new hp) hp (by rw[aF,e])
def Go:FnScope ["row"] ["row"] (ai oE):=by walk_at "s"
def Ie (T:Txt K mg t):FnOk P w K mg base CX0 2 t.A1 t.Al ["row"] (K12.sp_reads K):=by
 have Qo:=yN (P:=P) (w:=w) (base:=base) T;have Qt:=FP (P:=P) (w:=w) (base:=base) T;refine T.reads.F.ok Go (λvs H Q E h=>?_) (λcdv A outer s H vs Q E hr h=>?_)
 . let#[_,_,_,_,rfl,_]:=h;rfl
 . let#[r,xs,g,as,rfl,hrw,hrow,hl,hat,q]:=h;show#[_,(aI (@aa _ _ _ _ (aS T.each_once Qo 0xC ((eJ (N':=["atom"]) (js:=[none]) (by kernel_rfl) rfl (fe (aS T.atoms_of Qt 0xC (aB 0>=>aD))) dJ (λ_ _ _ _=>(aW (i:=0) (show(["atom"]:List Str).Nodup by decide +kernel) rfl 0x0 (.inr rfl))) (λ_ _ _ _=>(Bc (fJ (b6 (show ay _ (.builtin "isinstance") (Fc K) from EN) 0x1 T.b_isinstance iJ (aB 0>=>(iT (v:=V.ty "str") rfl T.b_str z8 rfl)>=>aD))))) (λ_ _ _ _=>(aB 0)))>=>aD))) ax),?_];show#[5,r,xs,g,as,rfl,hrw,hrow,hl,λl0 H1 s1 n1 e1=>?_];show#[l0,rfl,#[_,aH.of e1],λp hp=>ie (xs:=as) ∅ (λi acc H2=>acc=(ee (as.take i)).map V.str/\H2=upd H1 p (.lst acc)) #[7] ?_ ?_ ?_]
   . rintro i acc H2 hi ⟨rfl,rfl⟩;show#[aF,?_,(Same.new hp).seq (aH.of e1)];have:=sP (as.take i);rw[J7];rw[Jp] at this
     lia
   . rintro i x acc H2 hx ⟨rfl,rfl⟩;have hi:i<as.length:=(JF.mp hx).1;have e2:ee (as.take (i+1))=ee (as.take i)++ee [x]:=by rw[Jr,hx,B9];rfl
     rcases hat x (J9 hx) with⟨s,rfl,hn⟩|⟨z,rfl⟩
     . show#[40,true,rfl,.str _,13,?_];show#[5,aF,?_,rW];rw[e2,JB];rfl
     . show#[40,false,rfl,.int _,13,?_];show#[?_,?_]
       . rw[e2,HC,Jq]
       . rfl
   . rintro acc H2 ⟨rfl,rfl⟩;rw[Jh];have hle:=sP as;show#[p,ee as,rfl,aH.of aF,∅,λl H3 s3 n3 e3=>q l H3 ((s1\(Same.new hp)).trans s3) (s1.free ((Same.new hp).free n3)) e3]
def oq:FnScope ["function","found","row","given"] ["function"] (ai oY):=by walk_at "s"
def Ee (T:Txt K mg t):FnOk P w K mg base CX0 3 t.zu t.Ag ["function"] (K12.sp_names_of K):=by
 have Qo:=yN (P:=P) (w:=w) (base:=base) T;have Qu:=F1 (P:=P) (w:=w) (base:=base) T;have Qv:=Ie (P:=P) (w:=w) (base:=base) T;refine T.names_of.F.ok oq (λvs H Q E h=>?_) (λcdv A outer s H vs Q E hr h=>?_)
 . let#[_,_,_,rfl,_]:=h;rfl
 . let#[f,ps,ds,rfl,hf,q]:=h;show#[_,(aI (@aO _ _ 1 _ _ _ _ oq.nd rfl 0x0 (eO lI 0x1 T.b_list iX ((aM 0x4 (aB 0) aE 0x5)>=>aD)) 0x1 0x2) (aI (cK PassesOwn.never rfl (sv (aM 0x4 (aB 0) aE 0x5)) (aW (i:=2) oq.nd rfl 0x0) (aI (@aO _ _ 3 _ _ _ _ oq.nd rfl 0x0 (aS T.gives Qu 0xC (aB 2>=>aD)) 0x1 0x2) (aI (al (n9 (DS (aB 3))) (@aL _ _ _ (@cF _ _ _ _ (bu JN JQ JR cf (aB 1) (aB 3>=>aD)) 0x1)) ax) (@aL _ _ _ (@cF _ _ _ _ (bu JN PySem.F.slot_list_extend PySem.F.type_list_extend BJ (aB 1) ((aS T.reads Qv 0xC (aB 2>=>aD))>=>aD)) 0x1))))) (~~~(aS T.each_once Qo 0xC (aB 1>=>aD))))),?_];let#[n,b,pp,rr,hF,hP,hR]:=hf.fn;show#[5,f,35,hF,rfl,pp,5,.inr hP,λl hl=>?_];show#[5,f,35,(Same.new hl)<*hF,rfl,?_];show#[rr,rfl,#[_,(Same.new hl)<*hR],yY (xs:=ds.map λd=>V.ref d.r) (λi σ H2=>Same H H2/\∃v1 v2 fs,σ=[⇑↥f,⇑↥l,v1,v2]/\H2 l=⇑(.lst (List.map V.str fs))/\onceL fs=onceL (ps++(ds.take i).flatMap rowStrs)/\fs.length<=100+11 * i) #[Same.new hl,4,ps,rfl,aF,by simp,by have:=hf.pl; lia] ?_ ?_ ?_]
   . rintro i σ H2 hi ⟨s2,_⟩;exact s2<*hR
   . rintro i x σ H2 hx ⟨s2,v1,v2,fs,rfl,h2,ho,hlen⟩;have hi:i<ds.length:=by have:=(JF.mp hx).1;rw[J7] at this;exact this
     rw[JC] at hx;have hx:V.ref ds[i].r=x:=by simpa [hi] using hx
     subst hx;have hd:=hf.rows ds[i] (K2 hi);have hds:=hf.dl;have ef:(ds.take (i+1)).flatMap rowStrs=(ds.take i).flatMap rowStrs++rowStrs ds[i]:=by rw[Jr,K6];simp [hi]
     have hol:=Dz (ee ds[i].as);have hsl:=sP ds[i].as;have hal:=hd.len;let#[xs,hr1,hr2]:=(hd*>s2).row;show#[5,ds[i].r,xs,9,hr1,hr2,?_];show#[21,?_];cases hg:ds[i].gx with
     | none =>
       refine gS #[5,.inl #[6,aH.of h2],5,ds[i].r,xs,9,hr1,hr2,hd.len,hd.ats,λl4 H4 s4 n4 e4=>?_];show#[l,l4,19,s4 _ _ h2,e4,bj (by rw[J7,J7]; lia),?_];show#[(s2\s4).upd hl,4,fs++[]++onceL (ee ds[i].as),rfl,(by rw[aF,Jq,JB]),?_,(by simp only[JE,L0]; lia)];rw[wP ho,ef,Jl];unfold rowStrs;rw[hg];rfl
     | some x =>
       refine IT #[5,.inl #[6,aH.of h2],5,l,19,h2,gR (by rw[J7]; lia),?_];have s3:Same H (upd H2 l (.lst (List.map V.str fs++[V.str x]))):=s2.upd hl;let#[xs',hr1',hr2']:=(hd*>s3).row;show#[5,.inl #[6,aH.of aF],5,ds[i].r,xs',9,hr1',hr2',hd.len,hd.ats,λl4 H4 s4 n4 e4=>?_];show#[l,l4,19,s4 _ _ aF,e4,bj (by simp only[JE,J7,JX,L0]; lia),?_];show#[(s3\s4).upd hl,4,fs++[x]++onceL (ee ds[i].as),rfl,(by rw[aF,JB,JB]; rfl),?_,(by simp only[JE,JX,L0]; lia)];rw[wP ho,ef,Jl];unfold rowStrs;rw[hg];rfl
   . rintro σ H2 ⟨s2,v1,v2,fs,rfl,h2,ho,hlen⟩;rw[J7,Jh] at ho;rw[J7] at hlen;have hds:=hf.dl;show#[5,l,fs,rfl,aH.of h2,∅,λl3 H3 s3 n3 e3=>q l3 H3 (s2\s3) (s2.free n3) ?_];rw[e3,ho];rfl
end
end K84
namespace K84
open PySem L2 K13
section
variable {P:Program} {w:World} {K:MW} {mg:Str->JM MT} {base:Heap} {t:Adr}
def lU:FnScope ["rows","opened","begins","k","row"] ["rows"] (ai pR):=by walk_at "s"
def IU (T:Txt K mg t):FnOk P w K mg base CX0 1 t.zU t.AI ["rows"] (K13.sp_begins_of K):=by
 refine T.begins_of.F.ok lU (λvs H Q E h=>?_) (λcdv A outer s H vs Q E hr h=>?_)
 . let#[_,_,rfl,_]:=h;rfl
 . let#[a,ks,rfl,hR,w,hn,q]:=h;show#[_,(aI (@aO _ _ 1 _ _ _ _ lU.nd rfl 0x0 (bD aD) 0x1 0x2) (aI (@aO _ _ 2 _ _ _ _ lU.nd rfl 0x0 iR 0x1 0x2) (aI (cK PassesOwn.never rfl (qb rfl T.b_enumerate (aB 0>=>aD)) (dC rfl (bP (aW (i:=3) lU.nd rfl 0x0) (bP (aW (i:=4) lU.nd rfl 0x0) dB))) (@aL _ _ _ (al (aq ju (aM 0x4 (aB 4) aE 0x5) (aw (ak>=>ak>=>aD)) (by with_unfolding_all rfl)) (@aL _ _ _ (@cF _ _ _ _ (bu JN JQ JR cf (aB 1) (aB 3>=>aD)) 0x1)) (@aL _ _ _ (al (aq bq (aM 0x4 (aB 4) aE 0x5) ak (ac _)) (@aL _ _ _ (iS (dq hr.units) (aB 2) (aB 3) (aM 0x6 (aB 1) (iD iW aE) 0x5) 0x1)) (@aL _ _ _ (al (aq bq (aM 0x4 (aB 4) aE 0x5) ak (ac _)) (@aL _ _ _ (iS (dq hr.units) (aB 2) (aB 3) (qx JN PySem.F.slot_list_pop PySem.F.type_list_pop Io (aB 1)) 0x1)) ax))))))) (~~~(aB 2))))),?_];show#[c8,λol hol=>λd hd=>?_];let#[rs,e1,e2,e3]:=hR.ex;have hdo:d≠ol:=λz=>by rw[z,aF] at hd; cases hd
   have s0:Same H (upd (upd H ol (.lst [])) d (.dK [])):=(Same.new hol)\(Same.new hd);have hd0:H d=none:=(Same.new hol).free hd;show#[5,a,rfl,#[_,s0<*e1],tZ (xs:=rs.map V.ref) (λi σ H2=>i<=ks.length/\Same H H2/\∃v3 v4,σ=[⇑↥a,⇑↥ol,⇑↥d,v3,v4]/\H2 ol=⇑(.lst (ff ks i))/\H2 d=⇑(.dK (bg ks i))) #[Jd _,s0,9,by rw[aR hdo.symm]; exact aF,aF] ?_ ?_ ?_]
   . rintro i σ H2 hi ⟨_,s2,_⟩;exact s2<*e1
   . rintro i x σ H2 b hx ⟨hi',s2,v3,v4,rfl,ho,hg⟩ hb;have hi:i<rs.length:=by have:=(JF.mp hx).1;rw[J7] at this;exact this
     rw[JC] at hx;have hx:V.ref rs[i]=x:=by simpa [hi] using hx
     subst hx;let#[rest,hrow]:=e3 i rs[i] (by simp [hi]);have s3:Same H (upd H2 b (.tup [.int i,.ref rs[i]])):=s2\(Same.new hb);have ho3:=Same.new (o:=.tup [.int i,.ref rs[i]]) hb _ _ ho;have hg3:=Same.new (o:=.tup [.int i,.ref rs[i]]) hb _ _ hg;have sl:=Dq ks i;have bl:=tY ks i;show#[b,5,aJ.of aF,403,?_];show#[5,rs[i],35,s3<*hrow,bH,bI,λtw htw=>#[tw,[V.str "if",V.str "while"],rfl,.inr (aJ.of aF),29,?_]];have s4:=s3\(Same.new (o:=.tup [V.str "if",V.str "while"]) htw);have ho4:=Same.new (o:=.tup [V.str "if",V.str "while"]) htw _ _ ho3;have hg4:=Same.new (o:=.tup [V.str "if",V.str "while"]) htw _ _ hg3;by_cases hO:isO (kd ks i)=true
     . refine az ((inO _)\hO) ?_;show#[5,.inl #[6,aH.of ho4],5,ol,19,ho4,gR ∅,?_];show#[∅,s4.upd hol,9,?_,?_]
       . rw[aF];have:stk ks (i+1)=i::stk ks i:=by rw[fF]; unfold push; rw[JJ hO]
         unfold ff;rw[this,List.reverse_cons,JB];rfl
       . rw[aR hdo,uo (vX hO)];exact hg4
     refine au (λz=>hO ((inO _).symm.trans z)) ?_;show#[5,rs[i],35,s4<*hrow,bH,13,?_];by_cases h1:kd ks i="else"
     . refine az (Jg (Jj V.str h1)) ?_;have hE:isE (kd ks i)=true:=by rw[h1]; decide +kernel
       obtain⟨t,r,ht⟩:∃t r,stk ks i=t::r:=by
         cases z:stk ks i with
         | nil=>exact absurd z (w.open_ i ∅ hE)
         | cons t r=>show#[t,r,rfl]
       let#[q1,q2,q3]:=z6 ht;show#[21,ol,35,aH.of ho4,q1,21,d,5,fZ.k (k:=Sum.inl (i:Int)) hg4 (gR ∅),?_];show#[∅,s4.upd hd0,9,?_,?_]
       . rw[aR hdo.symm];have:stk ks (i+1)=stk ks i:=by rw[fF]; unfold push; rw[JI hO,JI (by rw[h1]; exact sU)]
         unfold ff;rw[this];exact ho4
       . rw[aF,pN #[hE,by rw[ht]; rfl]]
     refine au (λz=>h1 (V.str.inj (dX z))) ?_;show#[5,rs[i],35,s4<*hrow,bH,13,?_];by_cases h2:kd ks i="end"
     . refine az (Jg (Jj V.str h2)) ?_;have hE:isE (kd ks i)=true:=by rw[h2]; decide +kernel
       obtain⟨t,r,ht⟩:∃t r,stk ks i=t::r:=by
         cases z:stk ks i with
         | nil=>exact absurd z (w.open_ i ∅ hE)
         | cons t r=>show#[t,r,rfl]
       let#[q1,q2,q3]:=z6 ht;show#[5,.inl #[6,aH.of ho4],ol,19,ho4,q2,21,d,5,fZ.k (k:=Sum.inl (i:Int)) (by rw[aR hdo]; exact hg4) (gR ∅),?_];show#[∅,(s4.upd hol).upd hd0,9,?_,?_]
       . rw[aR hdo.symm,aF,q3];have:stk ks (i+1)=r:=by rw[fF]; unfold push; rw[JI hO,JJ h2,ht]; rfl
         unfold ff;rw[this]
       . rw[aF,pN #[hE,by rw[ht]; rfl]]
     refine au (λz=>h2 (V.str.inj (dX z))) ?_;show#[∅,s4,9,?_,?_]
     . have:stk ks (i+1)=stk ks i:=by rw[fF]; unfold push; rw[JI hO,JI h2]
       unfold ff;rw[this];exact ho4
     . rw[uo (GF h1 h2)];exact hg4
   . rintro σ H2 ⟨_,s2,v3,v4,rfl,ho,hg⟩;rw[J7,e2] at hg;show#[5,q d H2 s2 hd0 hg]
def iy:FnScope ["rows","begins","ends","k","begin","behind","follower","kind"] ["rows","begins"] (ai p8):=by walk_at "s"
def Fp (T:Txt K mg t):FnOk P w K mg base CX0 1 t.zW t.AK ["rows","begins"] (K13.sp_firsts_behind K):=by
 refine T.firsts_behind.F.ok iy (λvs H Q E h=>?_) (λcdv A outer s H vs Q E hr h=>?_)
 . let#[_,_,_,rfl,_]:=h;rfl
 . let#[a,d,ks,rfl,hR,w,hn,hd,q]:=h;show#[_,(aI (@aO _ _ 2 _ _ _ _ iy.nd rfl 0x0 iR 0x1 0x2) (aI (cK PassesOwn.never rfl (yG (pv 1)) (dC rfl (bP (aW (i:=3) iy.nd rfl 0x0) (bP (aW (i:=4) iy.nd rfl 0x0) dB))) (@aL _ _ _ (iS (dq hr.units) (pv 2) (pv 4) (pv 3) 0x1))) (aI (@aO _ _ 5 _ _ _ _ iy.nd rfl 0x0 (sJ<$>(bD (jG>=>aD))<*>(b6 rL 0x1 T.b_len bR (pv 0>=>aD))) 0x1 0x2) (aI (cK PassesOwn.never rfl (uc rfl T.b_range ((fQ<$>(b6 rL 0x1 T.b_len bR (pv 0>=>aD))<*>aE)>=>iD iW aE>=>iD iW aE>=>aD)) (aW (i:=3) iy.nd rfl 0x0) (aI (@aO _ _ 6 _ _ _ _ iy.nd rfl 0x0 (bL<$>pv 3<*>aE) 0x1 0x2) (aI (@aO _ _ 7 _ _ _ _ iy.nd rfl 0x0 (aM iz (aM iz (pv 0) (pv 6) 0x5) aE 0x5) 0x1 0x2) (@aL _ _ _ (al (kM bq (pv 7) ak (ac _)) (@aL _ _ _ (i5 (aM jN (pv 5) (iw (dq hr.units) (pv 2) (iw (dq hr.units) (pv 1) (pv 6) 0x5) 0x5) 0x5) (kC (pv 5) (pv 3) ka))) (@aL _ _ _ (al (@PW.pt _ _ _ (gd (kM bq (pv 7) ak (ac _)) (gn (kM bq (aM iz (aM iz (pv 0) (iw (dq hr.units) (pv 1) (pv 6) 0x5) 0x5) aE 0x5) ak (ac _))))) (@aL _ _ _ (i5 (iw (dq hr.units) (pv 1) (pv 6) 0x5) (kC (pv 5) (pv 3) ka))) (@aL _ _ _ (al (kM bq (pv 7) ak (ac _)) (@aL _ _ _ (i5 (aM jN (pv 5) (pv 6) 0x5) (kC (pv 5) (pv 3) ka))) (@aL _ _ _ (i5 (pv 6) (kC (pv 5) (pv 3) ka)))))))))))) (~~~(pv 5)))))),?_];refine λed hed=>?_;have hde:d≠ed:=λz=>by rw[<- z,hd] at hed; cases hed
   show#[5,d,bg ks ks.length,rfl,.inl #[Same.new hed _ _ hd,λo=>?_]];have sF:Same (upd H d (.frz o (.dK (bg ks ks.length)))) (upd (upd H ed (.dK [])) d (.frz o (.dK (bg ks ks.length)))):=λb u h=>by
     by_cases hb:b=d
     . subst hb;rw[aF] at h ⊢;exact h
     . rw[aR hb] at h ⊢;rw[aR (λz=>by rw[z,hed] at h; cases h)];exact h
   have hF:(upd H d (.frz o (.dK (bg ks ks.length)))) d=⇑(.frz o (.dK (bg ks ks.length))):=aF;have hedF:(upd H d (.frz o (.dK (bg ks ks.length)))) ed=none:=by rw[aR hde.symm]; exact hed
   have hRF:RowsAt K (upd H d (.frz o (.dK (bg ks ks.length)))) a ks:=hR.frz hd;have qF:∀l H',Same (upd H d (.frz o (.dK (bg ks ks.length)))) H'->(upd H d (.frz o (.dK (bg ks ks.length)))) l=none->wq H' l ks->Q ↥l H':=λl H' h1 h2 h3=>q l o H' h1 (by rw[aR (λz=>by rw[z,hF] at h2; cases h2)] at h2; exact h2) h3;generalize upd H d (.frz o (.dK (bg ks ks.length)))=HF at sF hF hedF hRF qF;have bl:=tY ks ks.length;have pl:=tJ ks ks.length;refine ug (λi σ H2=>i<=(bg ks ks.length).length/\Same HF H2/\∃v3 v4 eds,σ=[⇑↥a,⇑↥d,⇑↥ed,v3,v4,none,none,none]/\H2 ed=⇑(.dK eds)/\eds.length<=i/\∀b:Nat,bf eds (Sum.inl (b:Int):aP)=(fj ((bd ks ks.length).take i) b).map λ(m:Nat)=>V.int (m:Int)) #[Jd _,sF,4,[],rfl,by rw[aR hde.symm]; exact aF,JG _,λb=>rfl] ?_ ?_ ?_
   . rintro i σ H2 hi ⟨_,s2,_⟩;exact s2 _ _ hF
   . rintro i kv σ H2 b hkv ⟨hi,s2,v3,v4,eds,rfl,he,hel,hv⟩ hb;let#[p,hp,rfl]:=xh hkv;have hlt:=(JF.mp hkv).1;have he3:=Same.new (o:=.tup [V.int (p.1:Int),V.int (p.2:Int)]) hb _ _ he;show#[b,5,aJ.of aF,403,?_];show#[85,ed,5,fZ.k (k:=Sum.inl (p.2:Int)) he3 (gR ∅),?_];show#[hlt,(s2\(Same.new hb)).upd hedF,17,aF,?_,λb'=>?_]
     . exact Jo (fc _ _ _) ∅
     . rw[ky,Jr,hp];show _=(fj ((bd ks ks.length).take i++[p]) b').map _;rw[vG,hv b'];by_cases h:p.2=b'
       . rw[JJ h,JJ (by rw[h])];rfl
       . rw[JI h,JI (λz=>h (by have:(b':Int)=(p.2:Int):=Sum.inl.inj z; lia))]
   . rintro σ H2 ⟨_,s2,v3,v4,eds,rfl,he,hel,hv⟩;have hv:∀b:Nat,bf eds (Sum.inl (b:Int):aP)=(fj (bd ks ks.length) b).map λ(m:Nat)=>V.int (m:Int):=λb=>by rw[hv b];unfold bg hU;rw[J7,Jh]
     let#[rs,r1,r2,r3]:=hRF.ex;have rl:(rs.map V.ref).length=ks.length:=by rw[J7,r2]
     show#[ci,λnl hnl=>#[5,a,5,.inr ((s2\(Same.new hnl))<*r1),nl,19,aF,∅,by rw[rl]; lia,by rw[rl]; exact bj (by simp; lia),λbl hbl=>?_]];have s3:=(s2\(Same.new (o:=.lst [V.non]) hnl)).trans (Same.new (o:=.lst (List.replicate (((rs.map V.ref).length:Int).toNat) [V.non]).flatten) hbl);have hbF:HF bl=none:=s2.free ((Same.new hnl).free hbl);have hbe:bl≠ed:=λz=>by have:=(Same.new hnl).free hbl;rw[z,he] at this;cases this
     have he3:=(Same.new (o:=.lst (List.replicate (((rs.map V.ref).length:Int).toNat) [V.non]).flatten) hbl) _ _ ((Same.new (o:=.lst [V.non]) hnl) _ _ he);show#[5,a,5,.inr (s3<*r1),309,(ks.length:Int) - 2,-1,by rw[rl],#[∅,∅,∅,∅],?_];have hnn:(((ks.length:Int) - 2) - -1).toNat=ks.length - 1:=by lia
     rw[hnn];refine GV (λi σ H4=>Same HF H4/\∃v3 v4 v6 v7 bs,σ=[⇑↥a,⇑↥d,⇑↥ed,v3,v4,⇑↥bl,v6,v7]/\H4 ed=⇑(.dK eds)/\H4 bl=⇑(.lst bs)/\bs.length=ks.length/\∀k,k+1<ks.length->ks.length - 1 - i<=k->∃r:Nat,Beh ks k r/\bs[k]?=⇑(.int (r:Int))) #[s3,65,he3,aF,by rw[rl]; exact C4 _,λk h1 h2=>by lia] ?_ ?_
     . rintro i σ H4 hi ⟨s4,v3,v4,v6,v7,bs,rfl,e4,b4,l4,hb4⟩;obtain⟨k,hk⟩:∃k:Nat,k+2+i=ks.length:=#[ks.length - 2 - i,∅]
       have ek:((ks.length:Int) - 2) - (i:Int)=(k:Int):=by lia
       rw[ek];have hR4:=hRF*>s4;have old:∀j,j+1<ks.length->k<j->∃r:Nat,Beh ks j r/\bs[j]?=⇑(.int (r:Int)):=λj h1 h2=>hb4 j h1 ∅;have fin:∀(r:Nat) (v3 v4 v6 v7:JM V),Beh ks k r->Same HF (upd H4 bl (.lst (bs.set k (.int (r:Int)))))/\∃v3' v4' v6' v7' bs',([⇑↥a,⇑↥d,⇑↥ed,v3,v4,⇑↥bl,v6,v7]:St)=[⇑↥a,⇑↥d,⇑↥ed,v3',v4',⇑↥bl,v6',v7']/\(upd H4 bl (.lst (bs.set k (.int (r:Int))))) ed=⇑(.dK eds)/\(upd H4 bl (.lst (bs.set k (.int (r:Int))))) bl=⇑(.lst bs')/\bs'.length=ks.length/\∀j,j+1<ks.length->ks.length - 1 - (i+1)<=j->∃r:Nat,Beh ks j r/\bs'[j]?=⇑(.int (r:Int)):=λr v3 v4 v6 v7 hr=>by
         show#[s4.upd hbF,65,by rw[aR hbe.symm]; exact e4,aF,by rw[Ko]; exact l4,λj h1 h2=>?_];by_cases hj:j=k
         . subst hj;show#[r,hr,by rw[KI ∅]]
         . let#[r',q1,q2]:=old j h1 ∅;show#[r',q1,by rw[KR (λz=>hj z.symm)]; exact q2]
       have hix:dM bs.length (k:Int)=⇑k:=by unfold dM;rw[JJ ∅,JJ ∅,K3]
       have at_bs:∀j r:Nat,bs[j]?=⇑(.int (r:Int))->bo bs (j:Int)=⇑(.int (r:Int)):=λj r h=>bY h;show#[83,?_];show kO 6 (V.int ((k:Int)+1)) _ _ _;rw[show((k:Int)+1)=((k+1:Nat):Int) by lia];show#[21,ixk hR4 ∅ ∅ ?_];show#[45,?_];have bB:isE (kd ks (k+1))=true->∃b,(stk ks (k+1)).head?=⇑b:=λh=>by
         cases z:stk ks (k+1) with
         | nil=>exact absurd z (w.open_ (k+1) ∅ h)
         | cons b r=>show#[b,rfl]
       have fz:Rd H4 d (.dK (bg ks ks.length)):=.inr #[o,s4 _ _ hF];by_cases h1:kd ks (k+1)="else"
       . refine az (Jg (Jj V.str h1)) ?_;have hE:isE (kd ks (k+1))=true:=by rw[h1]; decide +kernel
         let#[b,hb]:=bB hE;have hbo:=tp (#[hE,hb]:dP ks b (k+1));let#[e,hEn]:=xg w ∅ hbo.2;have h5:k+1<=e:=yL hEn #[hE,hb];have h6:e+1<ks.length:=by
           rcases Jx (e+1) ks.length with z|z
           . exact z
           . have:=w.last e (by have:=hEn.2.1; lia);rw[hEn.2.2.1] at this;exact absurd this.symm yk.2
         let#[r,hr1,hr2]:=old e h6 ∅;have g1:fH H4 d (.int ((k+1:Nat):Int)) ⇑(.int (b:Int)):=.inl #[_,Sum.inl ((k+1:Nat):Int),fz,rfl,(uq ks.length ∅ #[hE,hb]).symm];have g2:fH H4 ed (.int (b:Int)) ⇑(.int (e:Int)):=.inl #[_,Sum.inl (b:Int),.inl e4,rfl,by rw[hv b,Dw hEn]; rfl];show#[341,d,5,g1,ed,5,g2,bl,35,aH.of b4,at_bs e r hr2,21,bl,35,b4,hix,fin r _ _ _ _ (.els h1 hb hEn hr1)]
       refine au (λz=>h1 (V.str.inj (dX z))) ?_;show#[45,?_];by_cases h2:kd ks (k+1)="end"
       . have hE:isE (kd ks (k+1))=true:=by rw[h2]; decide +kernel
         let#[b,hb]:=bB hE;have hbo:=tp (#[hE,hb]:dP ks b (k+1));have g1:fH H4 d (.int ((k+1:Nat):Int)) ⇑(.int (b:Int)):=.inl #[_,Sum.inl ((k+1:Nat):Int),fz,rfl,(uq ks.length ∅ #[hE,hb]).symm];refine az (Jg (Jj V.str h2)) ?_;show#[85,d,5,g1,ixk hR4 ∅ ∅ #[13,?_]];by_cases h3:kd ks b="while"
         . refine az (Jg (Jj V.str h3)) ?_;show#[21,d,5,g1,21,bl,35,b4,hix,fin b _ _ _ _ (.whl h2 hb h3)]
         . refine au (λz=>h3 (V.str.inj (dX z))) ?_;show#[45,az (Jg (Jj V.str h2)) ?_];have h6:k+1+1<ks.length:=by
             rcases Jx (k+1+1) ks.length with z|z
             . exact z
             . have:=w.last (k+1) ∅;rw[h2] at this;exact absurd this.symm yk.2
           let#[r,hr1,hr2]:=old (k+1) h6 ∅;show#[21,bl,35,aH.of b4,at_bs (k+1) r hr2,21,bl,35,b4,hix,fin r _ _ _ _ (.fin h2 hb h3 hr1)]
       . refine au (λz=>h2 (V.str.inj (dX z))) (gS ?_);show#[45,au (λz=>h2 (V.str.inj (dX z))) ?_];show#[85,bl,35,b4,hix,fin (k+1) _ _ _ _ (.oth h1 h2)]
     . rintro σ H4 ⟨s4,v3,v4,v6,v7,bs,rfl,e4,b4,l4,hb4⟩;show#[5,qF bl H4 s4 hbF #[bs,b4,l4,λk h1=>hb4 k h1 ∅]]
def iV:FnScope ["rows","begins","behind","turns","k","begin","found","row"] ["rows"] (ai nv):=by walk_at "s"
def F6 (T:Txt K mg t):FnOk P w K mg base CX0 2 t.A5 t.Ap ["rows"] (K13.sp_ways K):=by
 have Qw:=IU (P:=P) (w:=w) (base:=base) T;have Qx:=Fp (P:=P) (w:=w) (base:=base) T;refine T.ways.F.ok iV (λvs H Q E h=>?_) (λcdv A outer s H vs Q E hr h=>?_)
 . let#[_,_,rfl,_]:=h;rfl
 . let#[a,ks,rfl,hR,w,hn,q]:=h;show#[_,(aI (@aO _ _ 1 _ _ _ _ iV.nd rfl 0x0 (aS T.begins_of Qw 0xC (pv 0>=>aD)) 0x1 0x2) (aI (@aO _ _ 2 _ _ _ _ iV.nd rfl 0x0 (aS T.firsts_behind Qx 0xC (pv 0>=>pv 1>=>aD)) 0x1 0x2) (aI (@aO _ _ 3 _ _ _ _ iV.nd rfl 0x0 iR 0x1 0x2) (aI (cK PassesOwn.never rfl (yG (pv 1)) (dC rfl (bP (aW (i:=4) iV.nd rfl 0x0) (bP (aW (i:=5) iV.nd rfl 0x0) dB))) (@aL _ _ _ (@cF _ _ _ _ (IK (pv 3) (pv 5) (pv 4) #[31]) 0x1))) (aI (@aO _ _ 6 _ _ _ _ iV.nd rfl 0x0 (bD aD) 0x1 0x2) (aI (cK PassesOwn.never rfl (qb rfl T.b_enumerate (pv 0>=>aD)) (dC rfl (bP (aW (i:=4) iV.nd rfl 0x0) (bP (aW (i:=7) iV.nd rfl 0x0) dB))) (@aL _ _ _ (al (kM ju (aM iz (pv 7) aE 0x5) (aw (ak>=>ak>=>aD)) (by with_unfolding_all rfl)) (@aL _ _ _ (@cF _ _ _ _ (bu JN JQ JR ja (pv 6) (jG>=>aD)) 0x1)) (@aL _ _ _ (al (kM bq (aM iz (pv 7) aE 0x5) ak (ac _)) (@aL _ _ _ (@cF _ _ _ _ (bu JN JQ JR ja (pv 6) (aw aD>=>aD)) 0x1)) (@aL _ _ _ (al (n9 (Cw (dq hr.units) (pv 4) (pv 3))) (@aL _ _ _ (@cF _ _ _ _ (bu JN JQ JR ja (pv 6) ((aw ((aM jN (pv 2) (pv 4) 0x5)>=>(aM jN (pv 2) (iw (dq hr.units) (pv 3) (pv 4) 0x5) 0x5)>=>aD))>=>aD)) 0x1)) (@aL _ _ _ (@cF _ _ _ _ (bu JN JQ JR ja (pv 6) ((aw ((aM jN (pv 2) (pv 4) 0x5)>=>aD))>=>aD)) 0x1))))))))) (~~~(pv 6)))))))),?_];show#[5,a,ks,rfl,hR,w,hn,λd H1 s1 n1 e1=>?_];show#[21,a,d,ks,rfl,hR*>s1,w,hn,e1,λl o H2 s2 n2 hB=>?_];have s02:Same H H2:=(s1.upd n1)\s2;have hdF:H2 d=⇑(.frz o (.dK (bg ks ks.length))):=s2 _ _ aF;have hl0:H l=none:=s1.free n2;refine λtd htd=>?_;have bl:=tY ks ks.length;let#[bs,hb1,hb2,hb3]:=hB;show#[5,d,bg ks ks.length,rfl,.inr #[o,Same.new htd _ _ hdF,?_]];refine ug (λi σ H3=>i<=(bg ks ks.length).length/\Same H2 H3/\∃v4 v5 tds,σ=[⇑↥a,⇑↥d,⇑↥l,⇑↥td,v4,v5,none,none]/\H3 td=⇑(.dK tds)/\tds.length<=i/\∀b:Nat,bf tds (Sum.inl (b:Int):aP)=(cr ((bd ks ks.length).take i) b).map λ(m:Nat)=>V.int (m:Int)) #[Jd _,Same.new htd,4,[],rfl,aF,JG _,λb=>rfl] ?_ ?_ ?_
   . rintro i σ H3 hi ⟨_,s3,_⟩;exact s3 _ _ hdF
   . rintro i kv σ H3 b hkv ⟨hi,s3,v4,v5,tds,rfl,he,hel,hv⟩ hb;let#[p,hp,rfl]:=xh hkv;have hlt:=(JF.mp hkv).1;have he3:=Same.new (o:=.tup [V.int (p.1:Int),V.int (p.2:Int)]) hb _ _ he;show#[b,5,aJ.of aF,403,?_];have tk:∀b',cr ((bd ks ks.length).take (i+1)) b'=if(cr ((bd ks ks.length).take i) b').isSome=true then cr ((bd ks ks.length).take i) b' else if p.2=b' then ⇑p.1 else none:=λb'=>by rw[Jr,hp];exact yi _ p b'
     show#[5,td,rfl,.inl #[tds,.inl he3],21,tds,Sum.inl (p.2:Int),he3,rfl,gR ∅,λv hv'=>?_,λhv'=>?_]
     . show#[hlt,s3\(Same.new hb),4,tds,rfl,he3,∅,λb'=>?_];rw[hv b',tk b'];cases z:cr ((bd ks ks.length).take i) b' with
       | some m=>rfl
       | none =>
         rw[JI (show ¬ (none:JM Nat).isSome=true by decide),JI];intro h;rw[h,hv b',z] at hv';cases hv'
     . show#[hlt,(s3\(Same.new hb)).upd htd,17,aF,Jo (fc _ _ _) ∅,λb'=>?_];rw[ky,tk b'];by_cases h:p.2=b'
       . subst h;have z:cr ((bd ks ks.length).take i) p.2=none:=by
           rw[hv p.2] at hv';cases y:cr ((bd ks ks.length).take i) p.2 with
           | none=>rfl
           | some m=>rw[y] at hv'; cases hv'
         rw[JJ rfl,z,JI (show ¬ (none:JM Nat).isSome=true by decide),JJ rfl];rfl
       . rw[JI (λz=>h (by have:(b':Int)=(p.2:Int):=Sum.inl.inj z; lia)),hv b',JI h];cases z:cr ((bd ks ks.length).take i) b' with
         | some m=>rfl
         | none=>rfl
   . rintro σ H3 ⟨_,s3,v4,v5,tds,rfl,he,hel,hv⟩;have hv:∀b:Nat,bf tds (Sum.inl (b:Int):aP)=(cr (bd ks ks.length) b).map λ(m:Nat)=>V.int (m:Int):=λb=>by rw[hv b];unfold bg hU;rw[J7,Jh]
     let#[rs,r1,r2,r3]:=hR.ex;show#[c8,λfl hfl=>?_];have s03:=s02\s3;have hf2:H3 fl=none:=hfl;have htf:td≠fl:=λz=>by rw[<- z,he] at hfl; cases hfl
     have hf0:H fl=none:=s03.free hfl;show#[5,a,rfl,#[_,(s03\(Same.new hfl))<*r1],tZ (xs:=rs.map V.ref) (λi σ H4=>i<=ks.length/\Same H3 H4/\(∃v4 v5 v7,σ=[⇑↥a,⇑↥d,⇑↥l,⇑↥td,v4,v5,⇑↥fl,v7])/\FoundN H4 fl ks i) #[Jd _,Same.new hfl,#[17],#[[],aF,rfl,λk v z=>by simp at z]] ?_ ?_ ?_]
     . rintro i σ H4 hi ⟨_,s4,_⟩;exact(s03\s4).tup r1
     . rintro i x σ H4 b hx ⟨hi',s4,⟨v4,v5,v7,rfl⟩,hF⟩ hb;have hi:i<rs.length:=by have:=(JF.mp hx).1;rw[J7] at this;exact this
       rw[JC] at hx;have hx:V.ref rs[i]=x:=by simpa [hi] using hx
       subst hx;let#[rest,hrow]:=r3 i rs[i] (by simp [hi]);have s5:=s4\(Same.new (o:=.tup [.int i,.ref rs[i]]) hb);have hF5:=hF*>(Same.new (o:=.tup [.int i,.ref rs[i]]) hb);show#[b,5,aJ.of aF,403,?_];show#[5,rs[i],35,(s03\s5)<*hrow,bH,bI,λtw htw=>#[tw,[V.str "else",V.str "end"],rfl,.inr (aJ.of aF),29,?_]];have s6:=s5\(Same.new (o:=.tup [V.str "else",V.str "end"]) htw);let#[vs,f1,f2,f3]:=hF5*>(Same.new (o:=.tup [V.str "else",V.str "end"]) htw);generalize upd (upd H4 b (.tup [.int i,.ref rs[i]])) tw (.tup [V.str "else",V.str "end"])=H6 at s6 f1 f3 ⊢;have s06:=s03\s6;have fin:∀{H7:Hp} {v:V} {oo:JM (List Nat)} (u4 u5 u7:JM V),Same H6 H7->Due ks i oo->hJ H7 v oo->i+1<=ks.length/\Same H3 (upd H7 fl (.lst (vs++[v])))/\(∃v4 v5 v7,([⇑↥a,⇑↥d,⇑↥l,⇑↥td,u4,u5,⇑↥fl,u7]:St)=[⇑↥a,⇑↥d,⇑↥l,⇑↥td,v4,v5,⇑↥fl,v7])/\FoundN (upd H7 fl (.lst (vs++[v]))) fl ks (i+1):=λu4 u5 u7 s7 hd hv=>by show#[∅,(s6\s7).upd hfl,#[17],FoundN.push (s7 _ _ f1) f2 (λk v z=>?_) hd hv];let#[o',d',y]:=f3 k v z;show#[o',d',y*>s7]
       by_cases hE:isE (kd ks i)=true
       . refine az ((inE _)\hE) ?_;show#[5,.inl #[6,aH.of f1],fl,19,f1,gR ∅,fin _ _ _ (Same.refl _) (.no hE) rfl]
       refine au (λz=>hE ((inE _).symm.trans z)) ?_;show#[5,rs[i],35,s06<*hrow,bH,13,?_];by_cases hbk:kd ks i="back"
       . refine az (Jg (Jj V.str hbk)) ?_;show#[5,.inl #[6,aH.of f1],c8,λp hp=>#[fl,19,Same.new hp _ _ f1,gR ∅,fin _ _ _ (Same.new hp) (.back hbk) #[p,rfl,aF]]]
       refine au (λz=>hbk (V.str.inj (dX z))) ?_;have hlast:=vh w ∅ hbk;let#[r,hr1,hr2]:=hb3 i hlast;have hb6:=(s3\s6) _ _ hb1;have ht6:=s6 _ _ he;show#[21,td,5,fH.k (k:=Sum.inl (i:Int)) ht6,5,?_];by_cases hO:isO (kd ks i)=true
       . let#[e,hEn]:=xg w ∅ hO;let#[f,hf]:=Ew hEn;let#[r',hr3,hr4]:=hb3 f (CH w hf);have hvi:bf tds (Sum.inl (i:Int):aP)=⇑(V.int (f:Int)):=by rw[hv i,Cz hf]; rfl
         refine az (by rw[hvi]; rfl) ?_;have g:fH H6 td (.int (i:Int)) ⇑(V.int (f:Int)):=.inl #[_,Sum.inl (i:Int),.inl ht6,rfl,hvi.symm];show#[5,.inl #[6,aH.of f1],21,l,35,aH.of hb6,bY hr2,85,td,5,g,l,35,aH.of hb6,bY hr4,bI,λp hp=>#[fl,19,Same.new hp _ _ f1,gR ∅,fin _ _ _ (Same.new hp) (.two hO hf hr1 hr3) #[p,rfl,aF]]]
       . have hvi:bf tds (Sum.inl (i:Int):aP)=none:=by rw[hv i,EY hO]; rfl
         refine au (by rw[hvi]; decide) ?_;show#[5,.inl #[6,aH.of f1],21,l,35,aH.of hb6,bY hr2,ci,λp hp=>#[fl,19,Same.new hp _ _ f1,gR ∅,fin _ _ _ (Same.new hp) (.one hE hbk hO hr1) #[p,rfl,aF]]]
     . rintro σ H4 ⟨_,s4,⟨v4,v5,v7,rfl⟩,hF⟩;rw[J7,r2] at hF;show#[5,q fl H4 (s03\s4) hf0 hF]
end
end K84
namespace K84
open PySem L2 Gx Fl F2
section
variable {P:Program} {w:World} {K:MW} {mg:Str->JM MT} {base:Heap} {t:Adr}
def tX:FnScope ["self","program","k","function"] ["self","program"] (ai ny):=by walk_at "s"
def uT (T:Txt K mg t):FnOk P w K mg base CX0 4 t.zS t.AG ["self","program"] (CT K t):=by
 have Qy:=Ee (P:=P) (w:=w) (base:=base) T;have Qz:=F6 (P:=P) (w:=w) (base:=base) T;refine T.uG.F.ok tX (λvs H Q E h=>?_) (λcdv A outer s H vs Q E hr h=>?_)
 . let#[_,_,_,_,rfl,_]:=h;rfl
 . let#[x,dx,p,fns,rfl,hx,hS,n0,n12,hE,nd,q]:=h;show#[_,(aI (gQ (aB 0) (aM 0x4 (aM 0x6 (aB 1) (iD iW aE) 0x5) aE 0x5) 0x1) (aI (gQ (aB 0) iR 0x1) (aI (gQ (aB 0) iR 0x1) (aI (gQ (aB 0) iR 0x1) (aI (gQ (aB 0) iR 0x1) (aI (gQ (aB 0) iR 0x1) (fX (gQ (aB 0) iR 0x1) (@aL _ _ _ (cK PassesOwn.never rfl (p9 rfl T.b_enumerate (aB 1>=>aD)) (dC rfl (bP (aW (i:=2) tX.nd rfl 0x0) (bP (aW (i:=3) tX.nd rfl 0x0) dB))) (aI (iS (dq hr.units) (da (aB 0) 0x1) (aM 0x4 (aB 3) aE 0x5) (aB 2) 0x1) (aI (iS (dq hr.units) (da (aB 0) 0x1) (aM 0x4 (aB 3) aE 0x5) (aM 0x4 (aB 3) aE 0x5) 0x1) (aI (iS (dq hr.units) (da (aB 0) 0x1) (aM 0x4 (aB 3) aE 0x5) (aM 0x4 (aB 3) aE 0x5) 0x1) (aI (iS (dq hr.units) (da (aB 0) 0x1) (aM 0x4 (aB 3) aE 0x5) (aM 0x4 (aB 3) aE 0x5) 0x1) (aI (iS (dq hr.units) (da (aB 0) 0x1) (aM 0x4 (aB 3) aE 0x5) (aS T.names_of Qy 0xC (aB 3>=>aD)) 0x1) (@aL _ _ _ (iS (dq hr.units) (da (aB 0) 0x1) (aM 0x4 (aB 3) aE 0x5) (aS T.ways Qz 0xC ((aM 0x4 (aB 3) aE 0x5)>=>aD)) 0x1)))))))))))))))),?_];have fl:(fns.map λf=>V.ref f.fa).length=fns.length:=J7 _;have np:0<fns.length:=K7.mpr n0;obtain⟨fz,hz⟩:∃fz,fns[fns.length - 1]?=⇑fz:=#[fns[fns.length - 1],JA ∅]
   have hzT:=(hE fz (J9 hz)).fn;have eL:bo (fns.map λf=>V.ref f.fa) (-1)=⇑(V.ref fz.fa):=by
     unfold bo dM;rw[JI #[],JJ (by rw[fl]; lia),MA];have:((-1:Int)+((fns.map λf=>V.ref f.fa).length:Int)).toNat=fns.length - 1:=by rw[fl]; lia
     rw[this,JC,hz];rfl
   show#[21,p,35,bT.seq hS,eL,fz.fa,35,bT<*hzT,bH,5,x,t.bG,dx,5,hx,T.df.cl,T.mO,(by show 0<1000; decide),?_];have sx:∀{b:MV} {o:HO},ers x H b=⇑o->b≠x/\H b=⇑o:=λ{b o} e=>by
     have hb:b≠x:=λz=>by rw[z] at e; unfold ers at e; rw[JJ rfl] at e; cases e
     rw[aU hb] at e;show#[hb,e]
   have l1:=kK "last" (V.str fz.name) [] 0 (JG _);intro d0 h0;show#[5,x,t.bG,dx,5,b7 aF (Ne.symm (bV h0).1),T.df.cl,T.j6,∅,?_];have l2:=kK "number_of" ↥d0 _ 1 l1;intro d1 h1;show#[5,x,t.bG,dx,5,b7 aF (Ne.symm (bV h1).1),T.df.cl,T.kg,∅,?_];have l3:=kK "folded_of" ↥d1 _ 2 l2;intro d2 h2;show#[5,x,t.bG,dx,5,b7 aF (Ne.symm (bV h2).1),T.df.cl,T.kh,∅,?_];have l4:=kK "params_of" ↥d2 _ 3 l3;intro d3 h3;show#[5,x,t.bG,dx,5,b7 aF (Ne.symm (bV h3).1),T.df.cl,T.jl,∅,?_];have l5:=kK "rows_of" ↥d3 _ 4 l4;intro d4 h4;show#[5,x,t.bG,dx,5,b7 aF (Ne.symm (bV h4).1),T.df.cl,T.jk,∅,?_];have l6:=kK "names_in" ↥d4 _ 5 l5;show#[λσ' G=>∃d:Nat->MV,σ'=[⇑↥x,⇑↥p,none,none]/\FS t.bG G x dx (fG (V.str fz.name) d) d (λ_=>[])/\(∀i j,i<6->j<6->d i=d j->i=j)/\Same (ers x H) G/\∀k,ers x H (d k)=none,?_,?_]
   . intro d5 h5;let#[nx0,z0]:=bV h0;have q0:H d0=none:=z0;let#[nx1,z1]:=bV h1;let#[n10,w10]:=bV z1;let#[_,y10]:=bV w10;have q1:H d1=none:=y10;let#[nx2,z2]:=bV h2;let#[n21,w21]:=bV z2;let#[_,y21]:=bV w21;let#[n20,w20]:=bV y21;let#[_,y20]:=bV w20;have q2:H d2=none:=y20;let#[nx3,z3]:=bV h3;let#[n32,w32]:=bV z3;let#[_,y32]:=bV w32;let#[n31,w31]:=bV y32;let#[_,y31]:=bV w31;let#[n30,w30]:=bV y31;let#[_,y30]:=bV w30;have q3:H d3=none:=y30;let#[nx4,z4]:=bV h4;let#[n43,w43]:=bV z4;let#[_,y43]:=bV w43;let#[n42,w42]:=bV y43;let#[_,y42]:=bV w42;let#[n41,w41]:=bV y42;let#[_,y41]:=bV w41;let#[n40,w40]:=bV y41;let#[_,y40]:=bV w40;have q4:H d4=none:=y40;let#[nx5,z5]:=bV h5;let#[n54,w54]:=bV z5;let#[_,y54]:=bV w54;let#[n53,w53]:=bV y54;let#[_,y53]:=bV w53;let#[n52,w52]:=bV y53;let#[_,y52]:=bV w52;let#[n51,w51]:=bV y52;let#[_,y51]:=bV w51;let#[n50,w50]:=bV y51;let#[_,y50]:=bV w50;have q5:H d5=none:=y50;have inj:=Ho (d0:=d0) (d1:=d1) (d2:=d2) (d3:=d3) (d4:=d4) (d5:=d5) (by simp [Ne.symm n10,Ne.symm n20,Ne.symm n30,Ne.symm n40,Ne.symm n50,Ne.symm n21,Ne.symm n31,Ne.symm n41,Ne.symm n51,Ne.symm n32,Ne.symm n42,Ne.symm n52,Ne.symm n43,Ne.symm n53,Ne.symm n54]);show#[5,x,t.bG,dx,5,b7 aF (Ne.symm nx5),T.df.cl,T.ki,∅,dd d0 d1 d2 d3 d4 d5,rfl,#[aF,λj hj=>?_],inj,λb o e=>b7 (b7 (b7 (b7 (b7 (b7 (b7 (b7 (b7 (b7 (b7 (b7 (b7 (sx e).2 (sx e).1) (aY (sx e).2 q0)) (sx e).1) (aY (sx e).2 q1)) (sx e).1) (aY (sx e).2 q2)) (sx e).1) (aY (sx e).2 q3)) (sx e).1) (aY (sx e).2 q4)) (sx e).1) (aY (sx e).2 q5)) (sx e).1,λk=>?_]
     . match j,hj with
       | 0,_=>exact b7 (b7 (b7 (b7 (b7 (b7 (b7 (b7 (b7 (b7 (b7 aF nx0) (Ne.symm n10)) nx0) (Ne.symm n20)) nx0) (Ne.symm n30)) nx0) (Ne.symm n40)) nx0) (Ne.symm n50)) nx0
       | 1,_=>exact b7 (b7 (b7 (b7 (b7 (b7 (b7 (b7 (b7 aF nx1) (Ne.symm n21)) nx1) (Ne.symm n31)) nx1) (Ne.symm n41)) nx1) (Ne.symm n51)) nx1
       | 2,_=>exact b7 (b7 (b7 (b7 (b7 (b7 (b7 aF nx2) (Ne.symm n32)) nx2) (Ne.symm n42)) nx2) (Ne.symm n52)) nx2
       | 3,_=>exact b7 (b7 (b7 (b7 (b7 aF nx3) (Ne.symm n43)) nx3) (Ne.symm n53)) nx3
       | 4,_=>exact b7 (b7 (b7 aF nx4) (Ne.symm n54)) nx4
       | 5,_=>exact b7 aF nx5
       | n+6,h=>lia
     . match k with
       | 0=>exact(aU nx0).trans q0
       | 1=>exact(aU nx1).trans q1
       | 2=>exact(aU nx2).trans q2
       | 3=>exact(aU nx3).trans q3
       | 4=>exact(aU nx4).trans q4
       | n+5=>exact(aU nx5).trans q5
   rintro σ' G ⟨d,rfl,hFS,inj,hsm,hfd⟩;show#[5,p,rfl,#[_,hsm.seq hS],(let Jv1:Nat->St->Hp->Prop:=λi σ H2=>∃(v2 v3:JM V) (kv:Nat->List (aP×V)) (nl wl:Nat->MV),σ=[⇑↥x,⇑↥p,v2,v3]/\Same (ers x H) H2/\FS t.bG H2 x dx (fG (V.str fz.name) d) d kv/\kv 0=kD (λi _=>.int i) (fns.take i)/\kv 1=kD (λ_ f=>f.fo) (fns.take i)/\kv 2=kD (λ_ f=>↥f.pa) (fns.take i)/\kv 3=kD (λ_ f=>↥f.ra) (fns.take i)/\kv 4=kD (λi _=>↥(nl i)) (fns.take i)/\kv 5=kD (λi _=>↥(wl i)) (fns.take i)/\(∀j g,j<i->fns[j]?=⇑g->hl H2 (nl j)=⇑(.lst ((nms g).map V.str))/\K13.FoundN (hl H2) (wl j) (kY g) (kY g).length)/\∀j,j<6->(kv j).length<=i; tL (xs:=fns.map λf=>V.ref f.fa) Jv1 #[8,λ_=>0,λ_=>0,rfl,hsm,hFS,127,λj g h=>absurd h (Js _),λj hj=>JG _] ?_ ?_ ?_)]
   . rintro i σ H2 hi ⟨v2,v3,kv,nlf,wlf,rfl,s2,_⟩;exact s2.seq hS
   . rintro i y σ H2 b hy ⟨v2,v3,kv,nlf,wlf,rfl,s2,o2,k0,k1,k2,k3,k4,k5,hnw,kl⟩ hb;let#[f,hi,hm,rfl]:=j0 hy;have ilt:i<fns.length:=(JF.mp hi).1;have hT:=(hE f hm).fn;have hfu:=(hE f hm).fu;have fit:∀{n:Nat},n<=i+1->n<sizeLine:=λ{n} h=>zE ∅;show#[b,5,aJ.of aF,403,?_];have s3:=s2\(Same.new (o:=.tup [.int i,↥f.fa]) hb);have o3:=o2*>(Same.new (o:=.tup [.int i,↥f.fa]) hb);show#[21,x,t.bG,dx,9,o3.ob,T.df.cl,T.j6,lk_number _ _,5,f.fa,35,s3<*hT,bH,d 0,5,fZ.k (k:=(Sum.inr f.name:aP)) (show _=⇑(HO.dK (kv 0)) from o3.dc 0 #[]) (fit (by have:=kl 0 #[]; simpa using (by lia:_<=i+1))),?_];have s4:=Same.upd (o:=.dK (b5 (kv 0) (Sum.inr f.name:aP) (V.int i))) s3 (hfd 0);have o4:=o3.put inj 0 #[] (b5 (kv 0) (Sum.inr f.name:aP) (V.int i));show#[5,f.fa,35,s4<*hT,13,x,t.bG,dx,9,o4.ob,T.df.cl,T.kg,Gp _ _,5,f.fa,35,s4<*hT,bH,d 1,5,fZ.k (k:=(Sum.inr f.name:aP)) (show _=⇑(HO.dK (kv 1)) from o4.dc 1 #[]) (fit (by have:=kl 1 #[]; simpa using (by lia:_<=i+1))),?_];have s5:=Same.upd (o:=.dK (b5 (kv 1) (Sum.inr f.name:aP) f.fo)) s4 (hfd 1);have o5:=o4.put inj 1 #[] (b5 (kv 1) (Sum.inr f.name:aP) f.fo);show#[5,f.fa,35,s5<*hT,13,x,t.bG,dx,9,o5.ob,T.df.cl,T.kh,Dv _ _,5,f.fa,35,s5<*hT,bH,d 2,5,fZ.k (k:=(Sum.inr f.name:aP)) (show _=⇑(HO.dK (kv 2)) from o5.dc 2 #[]) (fit (by have:=kl 2 #[]; simpa using (by lia:_<=i+1))),?_];have s6:=Same.upd (o:=.dK (b5 (kv 2) (Sum.inr f.name:aP) ↥f.pa)) s5 (hfd 2);have o6:=o5.put inj 2 #[] (b5 (kv 2) (Sum.inr f.name:aP) ↥f.pa);show#[5,f.fa,35,s6<*hT,13,x,t.bG,dx,9,o6.ob,T.df.cl,T.jl,lk_rows _ _,5,f.fa,35,s6<*hT,bH,d 3,5,fZ.k (k:=(Sum.inr f.name:aP)) (show _=⇑(HO.dK (kv 3)) from o6.dc 3 #[]) (fit (by have:=kl 3 #[]; simpa using (by lia:_<=i+1))),?_];have s7:=Same.upd (o:=.dK (b5 (kv 3) (Sum.inr f.name:aP) ↥f.ra)) s6 (hfd 3);have o7:=o6.put inj 3 #[] (b5 (kv 3) (Sum.inr f.name:aP) ↥f.ra);show#[5,f.fa,f.ps,f.ds,rfl,hfu*>s7,λnl H8 e8 hnl hl8=>?_];have s8:=s7\e8;have o8:=o7*>e8;show#[5,x,t.bG,dx,9,o8.ob,T.df.cl,T.jk,lk_names _ _,5,f.fa,35,s8<*hT,bH,d 4,5,fZ.k (k:=(Sum.inr f.name:aP)) (show _=⇑(HO.dK (kv 4)) from o8.dc 4 #[]) (fit (by have:=kl 4 #[]; simpa using (by lia:_<=i+1))),?_];have s9:=Same.upd (o:=.dK (b5 (kv 4) (Sum.inr f.name:aP) ↥nl)) s8 (hfd 4);have o9:=o8.put inj 4 #[] (b5 (kv 4) (Sum.inr f.name:aP) ↥nl);show#[5,f.fa,35,s9<*hT,rfl,f.ra,kY f,rfl,((hE f hm).old.mono s9).rows,(hE f hm).wf,(by unfold kY; rw[J7]; have:=(hE f hm).len; lia),λwl HA eA hwl hfn=>?_];have sA:=s9\eA;have oA:=o9*>eA;show#[5,x,t.bG,dx,9,oA.ob,T.df.cl,T.ki,Bs _ _,5,f.fa,35,sA<*hT,bH,d 5,5,fZ.k (k:=(Sum.inr f.name:aP)) (show _=⇑(HO.dK (kv 5)) from oA.dc 5 #[]) (fit (by have:=kl 5 #[]; simpa using (by lia:_<=i+1))),?_];have sB:=Same.upd (o:=.dK (b5 (kv 5) (Sum.inr f.name:aP) ↥wl)) sA (hfd 5);have oB:=oA.put inj 5 #[] (b5 (kv 5) (Sum.inr f.name:aP) ↥wl);have c3:Same (hl H2) (hl H8):=by have z1:Same (hl H2) (hl (upd H2 b (.tup [.int i,↥f.fa]))):=(Same.new (o:=.tup [.int i,↥f.fa]) hb).hl;have z2:=e8.hl;rw[jp (o6.dc 3 #[]),jp (o5.dc 2 #[]),jp (o4.dc 1 #[]),jp (o3.dc 0 #[])] at z2;exact z1\z2
     have c4:Same (hl H8) (hl HA):=by have z2:=eA.hl;rw[jp (o8.dc 4 #[])] at z2;exact z2
     have c5:hl (upd HA (d 5) (.dK (b5 (kv 5) (Sum.inr f.name:aP) ↥wl)))=hl HA:=jp (oA.dc 5 #[]);show#[8,λj=>if j=i then nl else nlf j,λj=>if j=i then wl else wlf j,rfl,sB,oB,?_,?_,?_,?_,?_,?_,λj g hj hg=>?_,λj hj=>?_]
     . show b5 (kv 0) (Sum.inr f.name:aP) (V.int i)=_;rw[k0];exact jE hi nd (λ_ _ _=>rfl) rfl
     . show b5 (kv 1) (Sum.inr f.name:aP) f.fo=_;rw[k1];exact jE hi nd (λ_ _ _=>rfl) rfl
     . show b5 (kv 2) (Sum.inr f.name:aP) ↥f.pa=_;rw[k2];exact jE hi nd (λ_ _ _=>rfl) rfl
     . show b5 (kv 3) (Sum.inr f.name:aP) ↥f.ra=_;rw[k3];exact jE hi nd (λ_ _ _=>rfl) rfl
     . show b5 (kv 4) (Sum.inr f.name:aP) ↥nl=_;rw[k4];exact jE hi nd (λj _ hj=>by show V.ref (nlf j)=V.ref (if j=i then nl else nlf j); rw[JI ∅]) (by show V.ref nl=V.ref (if i=i then nl else nlf i); rw[JJ rfl])
     . show b5 (kv 5) (Sum.inr f.name:aP) ↥wl=_;rw[k5];exact jE hi nd (λj _ hj=>by show V.ref (wlf j)=V.ref (if j=i then wl else wlf j); rw[JI ∅]) (by show V.ref wl=V.ref (if i=i then wl else wlf i); rw[JJ rfl])
     . rw[c5];by_cases hji:j=i
       . subst hji;rw[hi] at hg;cases hg;show#[?_,?_]
         . show hl HA (if j=j then nl else nlf j)=_;rw[JJ rfl];exact c4 _ _ (x5 hl8)
         . show K13.FoundN (hl HA) (if j=j then wl else wlf j) _ _;rw[JJ rfl];exact hfn.hl
       . let#[y1,y2]:=hnw j g ∅ hg;show#[?_,?_]
         . show hl HA (if j=i then nl else nlf j)=_;rw[JI hji];exact c4 _ _ (c3 _ _ y1)
         . show K13.FoundN (hl HA) (if j=i then wl else wlf j) _ _;rw[JI hji];exact y2*>(c3\c4)
     . have e:=kl j hj
       match j,hj with
       | 0,_=>exact Jo (fc _ _ _) ∅
       | 1,_=>exact Jo (fc _ _ _) ∅
       | 2,_=>exact Jo (fc _ _ _) ∅
       | 3,_=>exact Jo (fc _ _ _) ∅
       | 4,_=>exact Jo (fc _ _ _) ∅
       | 5,_=>exact Jo (fc _ _ _) ∅
       | n+6,h=>lia
   . rintro σ H2 ⟨v2,v3,kv,nlf,wlf,rfl,s2,o2,k0,k1,k2,k3,k4,k5,hnw,kl⟩;rw[fl,Jh] at k0 k1 k2 k3 k4 k5;exact q H2 s2 #[λf hf=>(hE f hf)*>s2,nd,dx,fz,d,kv,nlf,wlf,hz,o2,k0,k1,k2,k3,k4,k5,λi f hi=>by let#[y1,y2]:=hnw i f (by rw[fl]; exact(JF.mp hi).1) hi; show#[sy _ _ y1,y2*>sy]]
end
end K84
namespace K84
open PySem L2 Gx Bt Pk Dc Ua
section
variable {P:Program} {w:World} {K:MW} {mg:Str->JM MT} {base:Heap} {t:Adr}
def Hj:FnScope ["one"] ["one"] (ai ox):=by walk_at "s"
def DY (T:Txt K mg t):FnOk P w K mg base CX0 1 t.zY t.AM ["one"] (DJ K):=by
 refine T.is_leaf.F.ok Hj (λvs H Q E h=>?_) (λcdv A outer s H vs Q E hr h=>?_)
 . let#[_,_,rfl,_]:=h;rfl
 . let#[tr,v,rfl,hv,ht,q]:=h;show#[_,(aI (@aa _ _ _ _ (gg ju (aM 0x4 (aB 0) aE 0x5) (aw (ak>=>ak>=>aD)) (by with_unfolding_all rfl))) ax),?_];have sb:∀i<9,fP (V.str (eQ i)) [V.str "box",V.str "num"]=false:=by decide +kernel
   cases tr with
   | box k =>
     let#[p,x,y,rfl,e,h1,h2]:=dE hv;cases ft h1;show#[5,p,35,e,bH,bI,λu hu=>#[u,5,.inr (aJ.of aF),7,vq (Jj V.bl (show fP (V.str "box") [V.str "box",V.str "num"]=true by decide +kernel)) (q _ (Same.new hu))]]
   | num k =>
     let#[p,x,y,rfl,e,h1,h2]:=dE hv;cases ft h1;show#[5,p,35,e,bH,bI,λu hu=>#[u,5,.inr (aJ.of aF),7,vq (Jj V.bl (show fP (V.str "num") [V.str "box",V.str "num"]=true by decide +kernel)) (q _ (Same.new hu))]]
   | op i l r =>
     let#[p,xs,rfl,e,hx]:=gq hv;let#[s,x,y,rfl,h1,bl,br]:=rB hx;cases ft h1;show#[5,p,35,e,bH,bI,λu hu=>#[u,5,.inr (aJ.of aF),7,vq (Jj V.bl ((sb i ht.1)\(by simp [cL]))) (q _ (Same.new hu))]]
def yK:FnScope ["one"] ["one"] (ai nh):=by walk_at "s"
def vA (T:Txt K mg t):∀n,FnOk P w K mg base CX0 (n+2) t.qE t.qM ["one"] (sW K n)
| 0=>T.leaves.F.ok yK (λvs H Q E h=>by let#[tr,v,rfl,hd,hv,ht,q]:=h; exact absurd hd (Js _)) (λcdv A outer s H vs Q E hr h=>by let#[tr,v,rfl,hd,hv,ht,q]:=h; exact absurd hd (Js _))
| n+1=>by
 have QA:=DY (P:=P) (w:=w) (base:=base) T;have Qg:FnOk P w K mg base CX0 (n+2) t.qE t.qM ["one"] (sW K n):=vA T n;refine T.leaves.F.ok yK (λvs H Q E h=>?_) (λcdv A outer s H vs Q E hr h=>?_)
 . let#[_,_,rfl,_]:=h;rfl
 . let#[tr,v,rfl,hd,hv,ht,q]:=h;show#[_,(aI (al (fJ (aS T.is_leaf QA (hr.mono ∅) (aB 0>=>aD))) (~~~aE) ax) (~~~(aX bL<$>(aS T.leaves Qg (hr.mono ∅) ((aM 0x4 (aB 0) aE 0x5)>=>aD))<*>(aS T.leaves Qg (hr.mono ∅) ((aM 0x4 (aB 0) aE 0x5)>=>aD))))),?_];show#[5,tr,v,rfl,hv,ht,λH1 s1=>#[5,?_]];cases tr with
   | box k=>exact az rfl (q _ s1)
   | num k=>exact az rfl (q _ s1)
   | op i l r =>
     let#[p,xs,rfl,e,hx]:=gq hv;let#[s,x,y,rfl,h1,bl,br]:=rB hx;have d1:cL l<n:=by have:max (cL l) (cL r)+1<n+1:=hd; lia
     have d2:cL r<n:=by have:max (cL l) (cL r)+1<n+1:=hd; lia
     exact au (by simp [cL]) #[5,p,35,s1<*e,rfl,l,x,rfl,d1,DatV.mono s1 _ _ bl,ht.2.1,λH2 s2=>#[5,p,35,s2<*(s1<*e),rfl,r,y,rfl,d2,DatV.mono (s1\s2) _ _ br,ht.2.2,λH3 s3=>#[19,vq (Jj V.int (Int.natCast_add ..).symm) (q H3 ((s1\s2).trans s3))]]]
def DM:FnScope ["number","count"] ["number","count"] (ai oJ):=by walk_at "s"
def vC (T:Txt K mg t):FnOk P w K mg base CX0 1 t.A0 t.Ak ["number","count"] (HL K):=by
 refine T.plain_bits.F.ok DM (λvs H Q E h=>?_) (λcdv A outer s H vs Q E hr h=>?_)
 . let#[_,_,rfl,_]:=h;rfl
 . let#[n,c,rfl,hc8,q]:=h;show#[_,(aI (@aa _ _ _ _ (bu KW Kd Ke k7 ak ((eJ (N':=["k","number"]) (js:=[none,some 0]) (by kernel_rfl) rfl (uc rfl T.b_range ((aX fQ<$>aB 1<*>aE)>=>iD iW aE>=>iD iW aE>=>aD)) dJ (λ_ _ _ _=>(aW (i:=0) (show(["k","number"]:List Str).Nodup by decide +kernel) rfl 0x0 (.inr rfl))) (λ_ _ _ _=>cm) (λ_ _ _ _=>(@mG _ _ _ _ _ _ _ _ (vj (K:=K) rfl (aX yg<$>(aZ yO<$>aB 1<*>aB 0)<*>aE) (by intro _; rfl)) ak ak)))>=>aD))) ax),?_];have hc:((c:Int) - 1 - -1).toNat=c:=by lia
   show#[27049,#[∅,∅,#[],#[]],λp hp=>D6 (λi=>V.str (tx [if n / 2 ^ (c - 1 - i)%2=1 then 49 else 48])) ∅ hp ?_ ?_]
   . rintro i H2 Rr hi s2 hR;have hk:((c:Int) - 1 - (i:Int)).toNat=c - 1 - i:=by lia
     show#[339,(by show(0:Int)<=(c:Int) - 1 - (i:Int); lia),77,?_];have e:Builtin.bitAnd ((n:Int) / 2 ^ ((c:Int) - 1 - (i:Int)).toNat) 1=((n / 2 ^ (c - 1 - i)%2:Nat):Int):=by have:=ED n (c - 1 - i);rw[K3] at this;rw[hk];exact this
     by_cases hb:n / 2 ^ (c - 1 - i)%2=1
     . refine az (by rw[e,hb]; rfl) ?_;rw[JJ hb] at hR;exact hR
     . have h0:n / 2 ^ (c - 1 - i)%2=0:=by lia
       refine au (by rw[e,h0]; decide) ?_;rw[JI hb] at hR;exact hR
   . rintro H2 s2 e2;rw[hc] at e2;have e3:((List.range c).map λi=>V.str (tx [if n / 2 ^ (c - 1 - i)%2=1 then 49 else 48]))=(((List.range c).map λi=>[if n / 2 ^ (c - 1 - i)%2=1 then 49 else 48]).map tx).map V.str:=by rw[Jm,Jm];rfl
     rw[e3] at e2;show#[_,p,11,aH.of e2,?_,?_]
     . rw[vT,JY,J7,J7,JY];show c+c * 0<=16777216
       lia
     . rw[jL,vK];exact q H2 s2
def pI:FnScope ["number","groups","rest"] ["number"] (ai oW):=by walk_at "s"
def qk (T:Txt K mg t):FnOk P w K mg base CX0 2 t.zw t.Ah ["number"] (GQ K):=by
 have Qh:=vC (P:=P) (w:=w) (base:=base) T;refine T.number_bits.F.ok pI (λvs H Q E h=>?_) (λcdv A outer s H vs Q E hr h=>?_)
 . let#[_,rfl,_]:=h;rfl
 . let#[n,rfl,hn,q]:=h;show#[_,(aI (@aO _ _ 1 _ _ _ _ pI.nd rfl 0x0 (bD aD) 0x1 0x2) (aI (@aO _ _ 2 _ _ _ _ pI.nd rfl 0x0 (aB 0) 0x1 0x2) (aI (D8 PassesOwn.never (aq (aX qV) (aB 2) aE (ac _)) (aI (@cF _ _ _ _ (bu JN JQ JR cf (aB 1) ((gU<$>ak<*>(aS T.plain_bits Qh 0xC ((aX yg<$>aB 2<*>aE)>=>aE>=>aD)))>=>aD)) 0x1) (@aL _ _ _ (@aO _ _ 2 _ _ _ _ pI.nd rfl 0x0 (aZ yO<$>aB 2<*>aE) 0x1 0x2)))) (~~~(gU<$>(gU<$>(bu KW Kd Ke k7 ak (aB 1>=>aD))<*>ak)<*>(aS T.plain_bits Qh 0xC (aB 2>=>aE>=>aD))))))),?_];have L60:=jX 15 n hn;show#[c8,λl hl=>#[5,?_]];refine GH (λσ H2=>Same H H2/\∃(r:Nat) (gs:List (List Nat)),σ=[⇑(.int n),⇑↥l,⇑(.int r)]/\H2 l=⇑(.lst ((gs.map tx).map V.str))/\gs.flatten++nb r=nb n/\∀g∈gs,g.length=4) (λσ _=>match σ with | [_,_,⇑(.int r)]=>r.toNat|_=>0) #[Same.new hl,n,[],rfl,aF,rfl,λg h=>by cases h] ?_ ?_
   . rintro σ H2 ⟨s2,r,gs,rfl,e2,hg,h4⟩;have fl:gs.flatten.length=4 * gs.length:=by
       clear e2 hg
       induction gs with
       | nil=>rfl
       | cons g gs ih =>
         rw[K8,JE,ih λx hx=>h4 x (Jc _ hx),h4 g Je,JX]
         lia
     have gl:gs.length<=16:=by
       have:=Jj List.length hg;rw[JE] at this
       lia
     show#[333,?_];by_cases c:r<8
     . refine au (by walk_at "l") ?_;have sm:((gs.map tx).map (·.length)).sum=gs.flatten.length:=by rw[Jm,Lm];exact Jj List.sum (KU λg _=>dO g)
       show#[26,l,11,aH.of e2,(by rw[sm,fl,J7]; show 4 * gs.length+gs.length * 0<=16777216; lia),?_];rw[jL];show#[19,(by rw[dO]; exact bj (by show gs.flatten.length+1<1000000; lia)),?_];show#[5,r,(3),rfl,#[],λH3 s3=>#[19,?_,?_]]
       . rw[vJ,fY,dO,dO,JE,gk];exact bj (by show gs.flatten.length+1+3<1000000; lia)
       . rw[vJ,fY,fY];have e:gs.flatten++[48]++pb r 3=nb n:=by rw[<- hg,iK c,Jl]; rfl
         rw[e];exact q H3 (s2\s3)
     . refine az (by walk_at "l") ?_;show#[5,.inl #[6,aH.of e2],83,r%8,(3),(by show [V.int (Builtin.bitAnd (r:Int) 7),V.int 3]=_; rw[Bl]; rfl),#[],λH3 s3=>#[19,(by rw[dO,gk]; exact bj (by show 1+3<1000000; decide)),l,19,s3 _ _ e2,(by rw[J7,J7]; exact Nat.lt_of_le_of_lt ∅ (zE (n:=1000) (JG _))),?_]];show#[83,(show(0:Int)<=3 by decide),?_];have e8:(r:Int) / 2 ^ (3:Int).toNat=((r / 8:Nat):Int):=by
         show(r:Int) / 8=_
         lia
       show#[#[(s2\s3).upd hl,r / 8,gs++[49::pb (r%8) 3],(by rw[<- e8]; rfl),?_,?_,?_],?_]
       . rw[aF,xj,JB,JB];rfl
       . rw[Kx,<- hg,lP c,Jl];simp
       . intro g hgm;rcases JZ.mp hgm with h|h
         . exact h4 g h
         . rw[JK.mp h,JX,gk]
       . show((r:Int) / 2 ^ (3:Int).toNat).toNat<(r:Int).toNat;rw[e8]
         lia
   . rintro σ H2 Q1 Q2 h ⟨v,e1,i,j,e2,e3,k,e4,z⟩;show#[v,e1,i,j,e2,e3,k,e4,h _ _ z]
def xc:FnScope ["one"] ["one"] (ai nV):=by walk_at "s"
def vk (T:Txt K mg t):∀n,FnOk P w K mg base CX0 (n+3) t.qG t.qN ["one"] (qU K n)
| 0=>T.reckoning_bits.F.ok xc (λvs H Q E h=>by let#[tr,v,rfl,hd,hB,hO,hL,q]:=h; exact absurd hd (Js _)) (λcdv A outer s H vs Q E hr h=>by let#[tr,v,rfl,hd,hB,hO,hL,q]:=h; exact absurd hd (Js _))
| n+1=>by
 have Qi:FnOk P w K mg base CX0 (n+3) t.qG t.qN ["one"] (qU K n):=vk T n;have Qd:=qk (P:=P) (w:=w) (base:=base) T;have Qh:=vC (P:=P) (w:=w) (base:=base) T;refine T.reckoning_bits.F.ok xc (λvs H Q E h=>?_) (λcdv A outer s H vs Q E hr h=>?_)
 . let#[_,_,rfl,_]:=h;rfl
 . let#[tr,v,rfl,hd,hB,hO,hL,q]:=h;show#[_,(aI (al (aq bq (aM 0x4 (aB 0) aE 0x5) ak (ac _)) (~~~(gU<$>ak<*>(aS T.number_bits Qd (hr.mono ∅) ((aM 0x4 (aB 0) aE 0x5)>=>aD)))) ax) (aI (al (aq bq (aM 0x4 (aB 0) aE 0x5) ak (ac _)) (~~~(gU<$>ak<*>(aS T.number_bits Qd (hr.mono ∅) ((aM 0x4 (aB 0) aE 0x5)>=>aD)))) ax) (~~~(gU<$>(gU<$>(gU<$>ak<*>(aS T.plain_bits Qh (hr.mono ∅) ((bu PySem.F.plainAttrs_tuple PySem.F.slot_tuple_index PySem.F.type_tuple_index IM (lE T.uJ) ((aM 0x4 (aB 0) aE 0x5)>=>aD))>=>jZ T.A6>=>aD)))<*>(aS T.reckoning_bits Qi (hr.mono ∅) ((aM 0x4 (aB 0) aE 0x5)>=>aD)))<*>(aS T.reckoning_bits Qi (hr.mono ∅) ((aM 0x4 (aB 0) aE 0x5)>=>aD)))))),?_];cases tr with
   | box k =>
     let#[p,x,y,rfl,e,h1,h2]:=dE hB;cases ft h1;cases g6 h2;have hk:=jX 15 k hO;show#[5,p,35,e,29,az (Jg rfl) #[5,p,35,e,rfl,k,rfl,hO,λH1 s1=>#[19,jT [48] _ (by show 1+(nb k).length<1000000; lia),vq (Jj V.str (C' _)) (q H1 s1)]]]
   | num k =>
     let#[p,x,y,rfl,e,h1,h2]:=dE hB;cases ft h1;cases g6 h2;have hk:=jX 15 k hO;show#[5,p,35,e,29,iN #[5,p,35,e,29,az (Jg rfl) #[5,p,35,e,rfl,k,rfl,hO,λH1 s1=>#[19,jT [49,48] _ (by show 2+(nb k).length<1000000; lia),vq (Jj V.str (Cr _)) (q H1 s1)]]]]
   | op i l r =>
     let#[p,xs,rfl,e,hx]:=gq hB;let#[s,x,y,rfl,h1,bl,br]:=rB hx;cases ft h1;have hi:=hO.1;have d1:cL l<n:=by have:max (cL l) (cL r)+1<n+1:=hd; lia
     have d2:cL r<n:=by have:max (cL l) (cL r)+1<n+1:=hd; lia
     have hLL:lv l+lv r<=16:=hL;have r1:=jn (kT hO.2.1);have r2:=jn (kT hO.2.2);show#[5,p,35,e,bH,13,au (λz=>(xz i hi).1 (V.str.inj (dX z))) #[5,p,35,e,bH,13,au (λz=>(xz i hi).2 (V.str.inj (dX z))) ?_]];show#[.inr (.inl #[rfl,T.J4]),5,p,35,e,bH,_,sgTup,_,i,7,T.t_SIGNS _,rfl,#[],BK i hi,Di i hi,i,(4),rfl,#[],λH1 s1=>#[19,jT [49,49] _ (by show 2+(pb i 4).length<1000000; rw[gk]; lia),?_]];show#[5,p,35,s1<*e,rfl,l,x,rfl,d1,DatV.mono s1 _ _ bl,hO.2.1,∅,λH2 s2=>#[19,(by rw[rT]; exact jT _ _ (by rw[JX,JX,gk]; lia)),?_]];show#[5,p,35,s2<*(s1<*e),rfl,r,y,rfl,d2,DatV.mono (s1\s2) _ _ br,hO.2.2,∅,λH3 s3=>#[19,(by rw[rT,fY]; exact jT _ _ (by rw[JE,JX,JX,gk]; lia)),vq (Jj V.str (by rw[rT,fY,fY]; rfl)) (q H3 ((s1\s2).trans s3))]]
def Hr:FnScope ["place"] ["place"] (ai nW):=by walk_at "s"
def HJ (T:Txt K mg t):FnOk P w K mg base CX0 20 t.zy t.Aj ["place"] (BG K):=by
 have Qi:FnOk P w K mg base CX0 19 t.qG t.qN ["one"] (qU K 16):=vk T 16;refine T.place_bits.F.ok Hr (λvs H Q E h=>?_) (λcdv A outer s H vs Q E hr h=>?_)
 . let#[_,_,rfl,_]:=h;rfl
 . let#[o,v,rfl,hB,hP,q]:=h;show#[_,(aI (@aa _ _ _ _ (@mG _ _ _ _ _ _ _ _ (n9 (t9 (aB 0))) (wm T.Ix) (gU<$>ak<*>(aS T.reckoning_bits Qi 0xC (aB 0>=>aD))))) ax),?_];have hv:=Cj hB;cases o with
   | none =>
     cases hv.mpr rfl;show#[21,az rfl (q H (Same.refl _))]
   | some tr =>
     let#[hO,hL]:=hP;have hr1:=jn (kT hO);have hd:=k8 tr;show#[21,au (λz=>by cases hv.mp (dX z)) #[5,tr,v,rfl,∅,hB,hO,∅,λH1 s1=>#[19,jT [49] _ (by show 1+(rb tr).length<1000000; lia),vq (Jj V.str (xj _)) (q H1 s1)]]]
def lC:FnScope ["before","chain","found","level","frame","has_one"] ["before","chain"] (ai mi):=by walk_at "s"
def vv (T:Txt K mg t):FnOk P w K mg base CX0 1 t.A4 t.Ao ["before","chain"] (IC K):=by
 refine T.views_ahead.F.ok lC (λvs H Q E h=>?_) (λcdv A outer s H vs Q E hr h=>?_)
 . let#[_,_,_,_,_,_,_,_,_,rfl,_]:=h;rfl
 . let#[b0,c,fns,m0,ch,z,zz,oz,ozz,rfl,hz,hzz,nd,h0,ok0,hc,hix,h3,q]:=h;show#[_,(aI (@aO _ _ 2 _ _ _ _ lC.nd rfl 0x0 (bD aD) 0x1 0x2) (aI (cK PassesOwn.never rfl (qb rfl T.b_enumerate (aB 1>=>aD)) (dC rfl (bP (aW (i:=3) lC.nd rfl 0x0) (bP (aW (i:=4) lC.nd rfl 0x0) dB))) (aI (@aO _ _ 5 _ _ _ _ lC.nd rfl 0x0 (pe (gg (aX gz) (aB 3) (b6 0x3 0x1 T.b_len bR ((aM 0x4 (aB 0) aE 0x5)>=>aD)) (ac _)) (sQ (gg bq (aM 0x4 (aM 0x4 (aM 0x4 (aB 0) aE 0x5) (aB 3) 0x5) aE 0x5) (aM 0x4 (aB 4) aE 0x5) (ac _)))) 0x1 0x2) (@aL _ _ _ (@cF _ _ _ _ (bu JN JQ JR cf (aB 2) ((@mG _ _ _ _ _ _ _ _ (fJ (aB 5)) (aM 0x6 (aM 0x4 (aB 0) aE 0x5) (aB 3) 0x5) (bD aD))>=>aD)) 0x1)))) (~~~(aB 2)))),?_];let#[bA,cv,wv,rfl,hb,hcv,hwv]:=dE h0;let#[cA,cs,rfl,hcs,dcs]:=gq hcv;let#[wA,ws,rfl,hws,dws]:=cX hwv;let#[chA,fs,rfl,hfs,dfs]:=gq hc;have lf:fs.length=ch.length:=by rw[bS dfs,J7]
   have lcs:cs.length=m0.ch.length:=by rw[bS dcs,J7]
   show#[c8,λl hl=>?_];have nlz:l≠z:=(aY hz hl).symm;have toL:∀{H2:Hp},Same H H2->Same (ers zz (ers z H)) (ers zz (ers z (ers l H2))):=λs=>Same.ers (Same.ers (gB s hl));have toH:Same (ers zz (ers z H)) H:=bT\bT;have hb:=toH<*hb;have hcs:=toH<*hcs;have hws:=toH.seq hws;show#[5,chA,rfl,#[_,(Same.new hl)<*hfs],(let Jv1:Nat->St->Hp->Prop:=λi σ H2=>∃v3 v4 v5:JM V,σ=[⇑↥bA,⇑↥chA,⇑↥l,v3,v4,v5]/\Same H H2/\∃xs,H2 l=⇑(.lst xs)/\DatAll K (ers zz (ers z (ers l H2))) (iA m0 ch i) xs; tZ (xs:=fs) Jv1 #[17,Same.new hl,_,aF,bK] ?_ ?_ ?_)]
   . rintro i σ H2 hi ⟨v3,v4,v5,rfl,s2,_⟩;exact s2<*hfs
   . rintro i y σ H2 b hy' ⟨v3,v4,v5,rfl,s2,xs,e2,d2⟩ hb';have ilt:i<fs.length:=(JF.mp hy').1;have lxs:xs.length=i:=by rw[bS d2]; unfold iA; rw[J7,JY]
     let#[c,hcc,hv]:=gw dfs hy';let#[fA,x1,x2,rfl,hf,hx1,hx2]:=dE hv;cases ft hx1;have s3:=Same.new (o:=.tup [.int i,↥fA]) hb';show#[b,5,aJ.of aF,403,?_];have d3:=DatAll.mono (Same.ers (l:=zz) (Same.ers (l:=z) (Same.ers (l:=l) s3))) _ _ d2;have e3:=s3 _ _ e2;have s03:=s2\s3;generalize upd H2 b (.tup [.int i,↥fA])=H3 at s3 d3 e3 s03 ⊢;have cg:(ch.getD i (0,0)).1=c.1:=by rw[JH,hcc]; rfl
     have ln:xs.length<sizeLine:=bj (n:=xs.length+1) ∅;have fin:∀(v:V) (H4:Hp),Same H3 H4->DatV K (ers zz (ers z (ers l H4))) (d7 (cP m0 i c.1)) v->∃xs',upd H4 l (.lst (xs++[v])) l=⇑(.lst xs')/\DatAll K (ers zz (ers z (ers l (upd H4 l (.lst (xs++[v])))))) (iA m0 ch (i+1)) xs':=λv H4 s4 hv4=>by show#[_,aF,?_];rw[dH];unfold iA;rw[Jy,JB];refine dZ (DatAll.mono (Same.ers (Same.ers (Same.ers s4))) _ _ d3) ?_;show DatV K (ers zz (ers z (ers l H4))) (d7 (cP m0 i (ch.getD i (0,0)).1)) v;rw[cg];exact hv4
     show#[21,bA,35,s03<*hb,bH,cA,5,.inr (s03<*hcs),19,?_];show#[5,?_];by_cases hi:i<m0.ch.length
     case neg =>
       have ha:cP m0 i c.1=[]:=by unfold cP lO; rw[Jz ∅]; rfl
       have hn:¬ decide ((i:Int)<(cs.length:Nat))=true:=by rw[JL]; lia
       exact au hn #[5,.inl #[6,aH.of e3],21,au JP #[c8,λe he=>#[l,19,Same.new he _ _ e3,ln,17,(s03\(Same.new he)).upd hl,fin _ _ (Same.new he) (by rw[ha]; exact bO (aH.of (by rw[aU (aY (s03 _ _ hzz) he).symm,aU (aY (s03 _ _ hz) he).symm,aU (aY e3 he).symm]; exact aF)) bK)]]]
     obtain⟨c0,hc0⟩:∃c0,m0.ch[i]?=⇑c0:=#[_,JA hi]
     obtain⟨v0,hv0⟩:∃v0,m0.vs[i]?=⇑v0:=#[_,JA (by rw[ok0.vl]; exact hi)]
     let#[x0,hx0,dx0]:=eK dcs hc0;let#[w0,hw0,dw0]:=eK dws hv0;let#[gA,y1,y2,rfl,hg,hy1,hy2]:=dE (DatV.mono toH _ _ dx0);cases ft hy1;refine az (by walk_at "l") ?_;show#[5,bA,35,s03<*hb,bH,5,cA,35,s03<*hcs,bY hx0,gA,35,s03<*hg,bH,5,fA,35,s03<*hf,bH,rfl,?_];have hl0:lO m0 i c.1=decide (c0.1=c.1):=by unfold lO; rw[hc0]
     by_cases hk:c0.1=c.1
     . have ha:cP m0 i c.1=v0:=by unfold cP; rw[hl0,Jg hk,JJ rfl,JH,hv0]; rfl
       show#[5,.inl #[6,aH.of e3],21,az (Jg (by rw[hk])) #[5,bA,35,s03<*hb,13,wA,35,s03.seq hws,bY hw0,l,19,e3,ln,17,s03.upd hl,fin _ _ (Same.refl _) (by rw[ha]; exact DatV.mono (toL s03) _ _ dw0)]]
     . have ha:cP m0 i c.1=[]:=by unfold cP; rw[hl0,J' hk,JI JP]
       show#[5,.inl #[6,aH.of e3],21,au (λz=>hk (GI nd (ok0.ix c0 (J9 hc0)).1 (hix c (J9 hcc)) (V.str.inj (dX z)))) #[c8,λe he=>#[l,19,Same.new he _ _ e3,ln,17,(s03\(Same.new he)).upd hl,fin _ _ (Same.new he) (by rw[ha]; exact bO (aH.of (by rw[aU (aY (s03 _ _ hzz) he).symm,aU (aY (s03 _ _ hz) he).symm,aU (aY e3 he).symm]; exact aF)) bK)]]]
   . rintro σ H2 ⟨v3,v4,v5,rfl,s2,xs,e2,d2⟩;rw[lf] at d2;show#[5,q l xs H2 s2 hl e2 (DatAll.mono (Same.ers (Same.ers bT)) _ _ d2)]
def oH:FnScope ["places","ahead","written","k","place"] ["places","ahead"] (ai mf):=by walk_at "s"
def Hi (T:Txt K mg t):FnOk P w K mg base CX0 21 t.A3 t.An ["places","ahead"] (FY K):=by
 have QB:=HJ (P:=P) (w:=w) (base:=base) T;refine T.view_bits.F.ok oH (λvs H Q E h=>?_) (λcdv A outer s H vs Q E hr h=>?_)
 . let#[_,_,_,_,rfl,_]:=h;rfl
 . let#[p,a,pl,ah,rfl,hp,ha,okp,oka,h24,q]:=h;show#[_,(aI (@aO _ _ 2 _ _ _ _ oH.nd rfl 0x0 (bD aD) 0x1 0x2) (aI (cK PassesOwn.never rfl (p9 rfl T.b_enumerate (aB 0>=>aD)) (dC rfl (bP (aW (i:=3) oH.nd rfl 0x0) (bP (aW (i:=4) oH.nd rfl 0x0) dB))) (@aL _ _ _ (@cF _ _ _ _ (bu JN JQ JR cf (aB 2) ((@mG _ _ _ _ _ _ _ _ (aq (qT hr.units) (kG rV (aB 1) (gr (aB 3)) (gr (aX bL<$>aB 3<*>aE))) (bD (aB 4>=>aD)) (ac _)) (wm T.Iu) (aS T.place_bits QB 0xC (aB 4>=>aD)))>=>aD)) 0x1))) (~~~(bu KW Kd Ke k7 ak (aB 2>=>aD))))),?_];let#[pA,xs,rfl,hx,dx]:=cX hp;let#[aA,ys,rfl,hy,dy]:=cX ha;have lx:xs.length=pl.length:=by rw[bS dx,J7]
   show#[c8,λw hw=>?_];show#[5,pA,rfl,#[_,(Same.new hw).seq hx],(let Jv1:Nat->St->Hp->Prop:=λi σ H2=>∃v3 v4:JM V,σ=[⇑↥pA,⇑↥aA,⇑↥w,v3,v4]/\Same H H2/\H2 w=⇑(.lst (((i6 ah pl i).map tx).map V.str)); tL (xs:=xs) Jv1 #[9,Same.new hw,aF] ?_ ?_ ?_)]
   . rintro i σ H2 hi ⟨v3,v4,rfl,s2,e2⟩;exact s2.seq hx
   . rintro i y σ H2 b hy' ⟨v3,v4,rfl,s2,e2⟩ hb;have ilt:i<xs.length:=(JF.mp hy').1;let#[o,ho,hv]:=gw dx hy';have s3:=Same.new (o:=.tup [.int i,y]) hb;show#[b,5,aJ.of aF,403,?_];generalize upd H2 b (.tup [.int i,y])=H3 at s3 ⊢;have s03:=s2\s3;have e3:=s3 _ _ e2;show#[5,.inl #[6,aH.of e3],21837,aA,5,s03.seq hy,λsl hsl=>#[5,ci,λl1 hl1=>?_]];rw[uR] at hl1 ⊢;have s4:=Same.new (o:=.lst (ys[i]?).toList) hsl;have s5:=Same.new (o:=.lst [y]) hl1;have s35:=s4\s5;have s05:=s03\s35;have gp:pl.getD i none=o:=by rw[JH,ho]; rfl
     show#[4,bO (aH.of (s5 _ _ aF)) (DatAll.mono s05 _ _ (wa dy i)),bO (aH.of aF) (ck (DatV.mono s05 _ _ hv) bK),uj (n:=9) (λo ho=>oka o (by
         cases e:ah[i]? with
         | none=>rw[e] at ho; cases ho
         | some a=>rw[e] at ho; rw[JK.mp ho]; exact J9 e)),uj (n:=9) (l:=[o]) (fW (okp o (J9 ho))),5,?_]
     rw[BP];have e5:=s35 _ _ e3;have ew:H w=none:=hw;have ln:(((i6 ah pl i).map tx).map V.str).length<sizeLine:=by rw[xL,vQ]; exact bj (n:=i+1) ∅
     by_cases hk:lk ah o i=true
     . refine az hk #[w,19,e5,ln,9,s05.upd hw,?_];rw[aF,wY,qw];unfold gX;rw[gp,JJ hk];rfl
     . refine au hk #[5,o,y,rfl,DatV.mono s05 _ _ hv,okp o (J9 ho),λH6 s6=>#[w,19,s6 _ _ e5,ln,9,(s05\s6).upd hw,?_]];rw[aF,wY,qw];unfold gX;rw[gp,JI hk]
   . rintro σ H2 ⟨v3,v4,rfl,s2,e2⟩;rw[lx] at e2;show#[26,w,11,aH.of e2,mP ?_,?_]
     . have:=qd (ah:=ah) okp;have a1:pl.length * 600<=24 * 600:=KB _ h24;show(vb ah pl).length<=16777216
       lia
     . rw[jL];exact q H2 s2
def io:FnScope ["flows","before","mark","chain","views","written","function","row","places","ahead"] ["flows","before","mark"] (ai mh):=by walk_at "s"
def Dt (T:Txt K mg t):FnOk P w K mg base CX0 22 t.zr t.Ae ["flows","before","mark"] (Dp K t):=by
 have Qd:=qk (P:=P) (w:=w) (base:=base) T;have Qp:=vv (P:=P) (w:=w) (base:=base) T;have QC:=Hi (P:=P) (w:=w) (base:=base) T;refine T.mark_bits.F.ok io (λvs H Q E h=>?_) (λcdv A outer s H vs Q E hr h=>?_)
 . let#[_,_,_,_,_,_,rfl,_]:=h;rfl
 . let#[x,b0,v,fns,m0,m,rfl,hF,n12,h0,ok0,hv,okm,q]:=h;show#[_,(aI (i5 (aB 2) (dC rfl (bP (aW (i:=3) io.nd rfl 0x0) (bP (aW (i:=4) io.nd rfl 0x0) dB)))) (aI (@aO _ _ 5 _ _ _ _ io.nd rfl 0x0 (bD ((aS T.number_bits Qd 0xC ((b6 0x3 0x1 T.b_len bR (aB 3>=>aD))>=>aD))>=>aD)) 0x1 0x2) (aI (cK PassesOwn.never rfl (sv (aB 3)) (dC rfl (bP (aW (i:=6) io.nd rfl 0x0) (bP (aW (i:=7) io.nd rfl 0x0) dB))) (@aL _ _ _ (@cF _ _ _ _ (bu JN JQ JR cf (aB 5) ((gU<$>(aS T.number_bits Qd 0xC ((iw (dq hr.units) (da (aB 0) 0x1) (aB 6) 0x5)>=>aD))<*>(aS T.number_bits Qd 0xC (aB 7>=>aD)))>=>aD)) 0x1))) (aI (cK PassesOwn.never rfl (rE false false rfl T.b_zip (aB 4>=>(aS T.views_ahead Qp 0xC (aB 1>=>aB 3>=>aD))>=>aD)) (dC rfl (bP (aW (i:=8) io.nd rfl 0x0) (bP (aW (i:=9) io.nd rfl 0x0) dB))) (@aL _ _ _ (@cF _ _ _ _ (bu JN JQ JR cf (aB 5) ((aS T.view_bits QC 0xC (aB 8>=>aB 9>=>aD))>=>aD)) 0x1))) (~~~(bu KW Kd Ke k7 ak (aB 5>=>aD))))))),?_];let#[mA,cv,wv,rfl,hmA,hcv,hwv]:=dE hv;let#[cA,cs,rfl,hcs,dcs]:=gq hcv;let#[wA,ws,rfl,hws,dws]:=cX hwv;have lcs:cs.length=m.ch.length:=by rw[bS dcs,J7]
   have lws:ws.length=m.ch.length:=by rw[bS dws,J7]; exact okm.vl
   have m3:=okm.l3;have nd:=hF.nd;show#[5,mA,5,hmA,403,?_];show#[5,cA,5,.inr hcs,cs.length,rfl,(by rw[ej]; lia),λH1 s1=>#[ci,λw hw=>?_]];have hwH:H w=none:=s1.free hw;have x1:=s1\(Same.new (o:=.lst [V.str (tx (nb cs.length))]) hw);show#[5,cA,rfl,#[_,x1<*hcs],(let Jv1:Nat->St->Hp->Prop:=λi σ H2=>∃v6 v7 v8 v9:JM V,σ=[⇑↥x,⇑b0,⇑↥mA,⇑↥cA,⇑↥wA,⇑↥w,v6,v7,v8,v9]/\Same H H2/\H2 w=⇑(.lst (dI (nb cs.length::(m.ch.take i).map fB))); yY (xs:=cs) Jv1 #[33,x1,aF] ?_ ?_ ?_)]
   . rintro i σ H2 hi ⟨v6,v7,v8,v9,rfl,s2,_⟩;exact s2<*hcs
   . rintro i y σ H2 hy ⟨v6,v7,v8,v9,rfl,s2,e2⟩;have ilt:i<cs.length:=(JF.mp hy).1;let#[c,hc,dc]:=gw dcs hy;let#[fA,y1,y2,rfl,hf,hy1,hy2]:=dE dc;cases ft hy1;cases g6 hy2;have ic:=okm.ix c (J9 hc);obtain⟨f,hfi⟩:∃f,fns[c.1]?=⇑f:=#[_,JA ic.1]
     have hF2:=hF*>s2;let#[dx,fz,d,kv,nl,wl,o0,o1,o2,o3,o4,o5,o6,o7,o8]:=hF2.ob;have hg:=fH.k (k:=(Sum.inr f.name:aP)) (o1.dc 0 #[]);rw[o2,F2.kD_at _ hF2.nd hfi] at hg;show#[fA,5,s2<*hf,403,?_];rw[gj hfi];show#[5,.inl #[6,aH.of e2],5,x,t.bG,dx,9,o1.ob,T.df.cl,T.j6,Fl.lk_number _ _,41,hg,c.1,rfl,(by rw[ej]; lia),λH3 s3=>#[5,c.2,rfl,(by rw[ej]; lia),λH4 s4=>#[19,?_,?_]]]
     . have h1:=iq (n:=c.1) ∅;have h2:=iq (n:=c.2) ∅;exact jT _ _ ∅
     . have e4:=s4 _ _ (s3 _ _ e2);show#[w,19,e4,(by rw[oG,JX,J7,Jp]; exact bj (n:=min i m.ch.length+1+1) ∅),33,((s2\s3).trans s4).upd hwH,?_];rw[aF,GL,<- sh,Jr,hc,JB];rfl
   . rintro σ H2 ⟨v6,v7,v8,v9,rfl,s2,e2⟩;rw[lcs,Jh] at e2;show#[85,b0,↥cA,fns,m0,m.ch,w,w,9,e2,e2,nd,(by rw[rq]; exact L2.DatV.mono (gB s2 hwH) _ _ h0),ok0,L2.DatV.mono s2 _ _ hcv,λc hc=>(okm.ix c hc).1,m3,λl xs H3 s3 hl e3 d3=>?_];rw[rq] at d3;have lxs:xs.length=m.ch.length:=by rw[bS d3]; unfold iA; rw[J7,JY]
     have s03:=s2\s3;show#[wA,l,rfl,#[_,s03.seq hws],#[_,aH.of e3],(let Jv2:Nat->St->Hp->Prop:=λi σ H4=>∃v6 v7 v8 v9:JM V,σ=[⇑↥x,⇑b0,⇑↥mA,⇑↥cA,⇑↥wA,⇑↥w,v6,v7,v8,v9]/\Same H H4/\H4 w=⇑(.lst (dI (nb m.ch.length::(m.ch.map fB++(List.range i).map (wB m0 m)))))/\H4 l=⇑(.lst xs)/\DatAll K (ers w H4) (iA m0 m.ch m.ch.length) xs; xi (b1:=false) (b2:=false) (xs:=ws) (ys:=xs) Jv2 #[33,s03,(by rw[List.range_zero,M7,Jq]; exact s3 _ _ e2),e3,d3] ?_ ?_ ?_)]
     . rintro i σ H4 hi ⟨v6,v7,v8,v9,rfl,s4,_,e4,_⟩;show#[s4.seq hws,aH.of e4]
     . rintro i y z σ H4 b hy hz ⟨v6,v7,v8,v9,rfl,s4,ew,el,d4⟩ hb;have ilt:i<ws.length:=(JF.mp hy).1;let#[vw,hvw,dvw]:=gw dws hy;let#[ah,hah,dah]:=sM d4 hz;have eah:ah=d7 (cP m0 i (j3 m i)):=by unfold iA at hah;rw[JC,LD ∅] at hah;exact(Option.some.inj hah).symm
       subst eah;have okv:=ow okm i;rw[si hvw] at okv;have s5:=Same.new (o:=.tup [y,z]) hb;show#[b,5,aJ.of aF,403,?_];have ew5:=s5 _ _ ew;have el5:=s5 _ _ el;have d5:=L2.DatAll.mono (Same.ers (l:=w) s5) _ _ d4;generalize upd H4 b (.tup [y,z])=H5 at s5 ew5 el5 d5 ⊢;have oka:=wX ok0 i (j3 m i);show#[5,.inl #[6,aH.of ew5],21,y,z,vw,cP m0 i (j3 m i),rfl,L2.DatV.mono (s4\s5) _ _ dvw,L2.DatV.mono (bT\s5) _ _ dah,okv.2,oka.2,okv.1,λH6 s6=>?_];have ew6:=s6 _ _ ew5;have nwl:l≠w:=λh=>by have:=s2\s3;have h1:=e2;rw[<- h,hl] at h1;cases h1
       show#[w,19,ew6,(by rw[oG,JX,JE,J7,J7,JY]; exact bj (n:=m.ch.length+i+1+1) ∅),33,((s4\s5).trans s6).upd hwH,?_,?_,?_]
       . rw[aF,show vb (cP m0 i (j3 m i)) vw=wB m0 m i by unfold wB; rw[si hvw],<- sh,Jy,JB];simp only[List.cons_append,Jl];rfl
       . rw[aR nwl];exact s6 _ _ el5
       . rw[dH];exact L2.DatAll.mono (Same.ers s6) _ _ d5
     . rintro σ H4 ⟨v6,v7,v8,v9,rfl,s4,ew,_⟩;rw[lws,lxs,Nat.min_self] at ew;show#[26,w,11,aH.of ew,mP ?_,?_]
       . rw[zC];have:=zB (m0:=m0) okm n12
         lia
       . rw[jL,zC];exact q H4 s4
def lV:FnScope ["flows","marks","written","before","mark"] ["flows","marks"] (ai nr):=by walk_at "s"
def Ij (T:Txt K mg t):FnOk P w K mg base CX0 23 t.zt t.Af ["flows","marks"] (IN K t):=by
 have Qd:=qk (P:=P) (w:=w) (base:=base) T;have QD:=Dt (P:=P) (w:=w) (base:=base) T;refine T.marks_bits.F.ok lV (λvs H Q E h=>?_) (λcdv A outer s H vs Q E hr h=>?_)
 . let#[_,_,_,_,rfl,_]:=h;rfl
 . let#[x,v,fns,ms,rfl,hF,n12,hv,h200,hok,q]:=h;show#[_,(aI (@aO _ _ 2 _ _ _ _ lV.nd rfl 0x0 (bD ((aS T.number_bits Qd 0xC ((b6 0x3 0x1 T.b_len bR (aB 1>=>aD))>=>aD))>=>aD)) 0x1 0x2) (aI (@aO _ _ 3 _ _ _ _ lV.nd rfl 0x0 (aw (aw aD>=>bD aD>=>aD)) 0x1 0x2) (aI (cK PassesOwn.never rfl (fe (aB 1)) (aW (i:=4) lV.nd rfl 0x0) (aI (@cF _ _ _ _ (bu JN JQ JR cf (aB 2) ((aS T.mark_bits QD 0xC (aB 0>=>aB 3>=>aB 4>=>aD))>=>aD)) 0x1) (@aL _ _ _ (@aO _ _ 3 _ _ _ _ lV.nd rfl 0x0 (aB 4) 0x1 0x2)))) (~~~(bu KW Kd Ke k7 ak (aB 2>=>aD)))))),?_];let#[mA,us,rfl,hus,dus]:=cX hv;have lus:us.length=ms.length:=by rw[bS dus,J7]
   show#[5,mA,5,.inl hus,us.length,rfl,(by rw[ej]; lia),λH1 s1=>#[ci,λw hw=>?_]];show#[c8,λt0 ht0=>#[c8,λl0 hl0=>#[bI,λp0 hp0=>?_]]];have x1:=Same.new (o:=.lst [V.str (tx (nb us.length))]) hw;have x2:=Same.new (o:=.tup []) ht0;have x3:=Same.new (o:=.lst []) hl0;have x4:=Same.new (o:=.tup [↥t0,↥l0]) hp0;have ew:=x4 _ _ (x3 _ _ (x2 _ _ (aF (H:=H1) (a:=w) (o:=.lst [V.str (tx (nb us.length))]))));have n1:t0≠w:=(aY aF ht0).symm;have n2:l0≠w:=(aY (x2 _ _ aF) hl0).symm;have n3:p0≠w:=(aY (x3 _ _ (x2 _ _ aF)) hp0).symm;have d0:DatV K (ers w (upd (upd (upd (upd H1 w (.lst [V.str (tx (nb us.length))])) t0 (.tup [])) l0 (.lst [])) p0 (.tup [↥t0,↥l0]))) (eY (cU fns) cY) ↥p0 :=
     cQ (aJ.of (by rw[aU n3]; exact aF)) (gP (aJ.of (by rw[aU n1]; exact x4 _ _ (x3 _ _ aF))) bK) (bO (aH.of (by rw[aU n2]; exact x4 _ _ aF)) bK)
   have s0:=s1\(((x1\x2).trans x3).trans x4);have hwH:H w=none:=s1.free hw;generalize upd (upd (upd (upd H1 w (.lst [V.str (tx (nb us.length))])) t0 (.tup [])) l0 (.lst [])) p0 (.tup [↥t0,↥l0])=G0 at ew d0 s0 ⊢;show#[5,mA,rfl,#[_,s0.seq hus],(let Jv1:Nat->St->Hp->Prop:=λi σ H2=>∃(bv:V) (v4:JM V),σ=[⇑↥x,⇑↥mA,⇑↥w,⇑bv,v4]/\Same H H2/\H2 w=⇑(.lst (dI (nb us.length::eZ ms i)))/\DatV K (ers w H2) (eY (cU fns) (dS ms i)) bv; m7 (xs:=us) Jv1 #[9,s0,ew,d0] ?_ ?_ ?_)]
   . rintro i σ H2 hi ⟨bv,v4,rfl,s2,_⟩;exact s2.seq hus
   . rintro i y σ H2 hy ⟨bv,v4,rfl,s2,e2,d2⟩;have ilt:i<us.length:=(JF.mp hy).1;let#[m,hm,dm]:=gw dus hy;have gm:ms.getD i cY=m:=by rw[JH,hm]; rfl
     have okp:MOk fns.length (dS ms i):=by
       cases i with
       | zero=>exact wM _
       | succ i =>
         show MOk fns.length (ms.getD i cY);refine hok _ ?_;rw[JH,JA ∅];exact K2 _
     show#[5,.inl #[6,aH.of e2],85,x,bv,y,fns,dS ms i,m,rfl,hF*>s2,n12,L2.DatV.mono bT _ _ d2,okp,L2.DatV.mono s2 _ _ dm,hok m (J9 hm),λH3 s3=>?_];have e3:=s3 _ _ e2;show#[w,19,e3,(by rw[oG,JX,nI]; exact bj (n:=i+1+1) ∅),?_];have s4:=(s2\s3).upd (o:=.lst (dI (nb us.length::eZ ms i)++[V.str (tx (mb (dS ms i) m))])) hwH;show#[41,s4,?_,?_]
     . rw[aF,<- sh,Hl,gm];rfl
     . show DatV K _ (eY (cU fns) (ms.getD i cY)) y;rw[gm];exact L2.DatV.mono (gB s4 hwH) _ _ dm
   . rintro σ H2 ⟨bv,v4,rfl,s2,e2,d2⟩;rw[lus] at e2;show#[26,w,11,aH.of e2,mP ?_,?_]
     . rw[vz];have:=GU hok n12 h200
       lia
     . rw[jL,vz];exact q H2 s2
def uV:FnScope ["program","table","flows"] ["program","table"] (ai oF):=by walk_at "s"
def GP (T:Txt K mg t):FnOk P w K mg base CX0 24 t.zx t.Ai ["program","table"] (Bu K):=by
 have Qq:=uT (P:=P) (w:=w) (base:=base) T;have QE:=Ij (P:=P) (w:=w) (base:=base) T;refine T.pack.F.ok uV (λvs H Q E h=>?_) (λcdv A outer s H vs Q E hr h=>?_)
 . let#[_,_,_,_,rfl,_]:=h;rfl
 . let#[p,v,fns,tb,rfl,hS,n0,n12,hE,nd,hv,t12,hok,q]:=h;show#[_,(aI (@aO _ _ 2 _ _ _ _ uV.nd rfl (Or.inr rfl) (yd T.df T.uG Qq 0xC (aB 0>=>aD)) 0x1 0x2) (~~~(eJ (N':=["name","marks","flows"]) (js:=[none,none,some 2]) (by kernel_rfl) rfl (fe (aB 1)) (n6 (j2 (j2 nt))) (λ_ _ _ _=>(show PG _ _ (jt K 2 _) from dC (n:=2) rfl (bP (aW (i:=0) (show(["name","marks","flows"]:List Str).Nodup by decide +kernel) rfl 0x0 (.inr rfl)) (bP (aW (i:=1) (show(["name","marks","flows"]:List Str).Nodup by decide +kernel) rfl 0x0 (.inr rfl)) dB)))) (λ_ _ _ _=>cm) (λ_ _ _ _=>(aS T.marks_bits QE 0xC (aB 2>=>aB 1>=>aD)))))),?_];let#[tA,es,rfl,hes,des]:=cX hv;have les:es.length=tb.length:=by rw[bS des,J7]
   show#[5,λx dx nx ndx nex=>?_];have s0:Same H (upd (upd H dx (.own x)) x (.ins t.bG dx [])):=λb o e=>by rw[aR (aY e nx),aR (aY e ndx)];exact e
   have s1':Same H (ers x (upd (upd H dx (.own x)) x (.ins t.bG dx []))):=λb o e=>by rw[dH,aU (aY e nx),aR (aY e ndx)];exact e
   show#[x,dx,p,fns,rfl,aF,s1'.seq hS,n0,n12,λf hf=>(hE f hf)*>s1',nd,λH1 s1 hF=>#[rfl,?_]];have s01:Same H H1:=λb o e=>s1 b o (by rw[aU (aY e nx)]; exact s0 b o e);show#[5,tA,rfl,#[_,s01.seq hes],λu hu=>(let Jv1:Nat->List V->Hp->Prop:=λi acc H2=>Same H1 H2/\H2 u=⇑(.lst acc)/\acc=(tb.take i).map λe=>V.str (tx (c6 e.2)); ie (xs:=es) ∅ Jv1 #[Same.new hu,aF,rfl] ?_ ?_ ?_)]
   . rintro i acc H2 hi ⟨s2,e2,rfl⟩;show#[e2,by rw[J7,Jp]; lia,(s01\s2).seq hes]
   . rintro i y acc H2 hy ⟨s2,e2,rfl⟩;let#[e,he,de]:=gw des hy;let#[eA,y1,y2,rfl,heA,hy1,hy2]:=dE de;let#[h200,hms]:=hok e (J9 he);have s02:=s01\s2;show#[eA,5,s02<*heA,403,?_];show#[21,x,y2,fns,e.2,rfl,hF*>s2,n12,L2.DatV.mono s02 _ _ hy2,h200,hms,λH3 s3=>#[s3 _ _ e2,(s2\s3).upd hu,aF,?_]];rw[Jr,he,JB];rfl
   . rintro acc H2 ⟨s2,e2,rfl⟩;rw[les,Jh] at e2;exact q u H2 (s01\s2) (s01.free hu) e2
def Ig:FnScope ["self","flows","bits"] ["self","flows","bits"] (ai mV):=by walk_at "s"
def Cv (T:Txt K mg t):FnOk P w K mg base (ao P w) 1 t.zL t.AA ["self","flows","bits"] (GK K t):=by
 refine T.zG.F.okE Ig (λvs H Q E h=>?_) (λcdv A outer s H vs Q E hr h=>?_)
 . let#[_,_,_,_,_,rfl,_]:=h;rfl
 . let#[x,dx,fl,fns,l,rfl,hx,hF,ok,hl,q1,q2]:=h;show#[_,(aI (al (kU (fJ (b6 (sI rfl) 0x1 T.b_all qS ((eJ (N':=["sign"]) (js:=[none]) (by kernel_rfl) rfl (GB (aB 2)) dJ (λ_ _ _ _=>(aW (i:=0) (show(["sign"]:List Str).Nodup by decide +kernel) rfl 0x0 (.inr rfl))) (λ_ _ _ _=>cm) (λ_ _ _ _=>(gg (show bc _ (compareOp .In) (rIn K false) from ju) (aB 0) (aw (ak>=>ak>=>aD)) (by with_unfolding_all rfl))))>=>aD)))) (@aL _ _ _ (gf T.x_bB T.i0_bB rfl gM)) ax) (aI (gQ (aB 0) (aB 1) 0x1) (aI (gQ (aB 0) (eO (uX rfl) 0x1 T.b_list iX ((da (aB 1) 0x1)>=>aD)) 0x1) (aI (gQ (aB 0) (aB 2) 0x1) (@aL _ _ _ (gQ (aB 0) aE 0x1)))))),?_];have hs:(tx l).length<=1000000:=by rw[dO]; exact hl
   show#[21,λpL hpL=>EC hs (λi acc H2=>Same H H2/\H2 pL=⇑(.lst acc)/\acc=((l.take i).map sY).map V.bl) #[Same.new hpL,aF,rfl] ?_ ?_ ?_]
   . rintro i acc H2 hi ⟨s2,e2,rfl⟩;show#[e2,by rw[J7,J7,Jp]; lia]
   . rintro i c acc H2 hc ⟨s2,e2,rfl⟩;have hc:l[i]?=⇑c:=by have:l.toArray[i]?=⇑c:=hc;simpa using this
     show#[5,bI,λu hu=>#[u,5,.inr (aJ.of aF),7,Same.new hu _ _ e2,(s2\(Same.new hu)).upd hpL,aF,?_]];rw[Jr,hc,JB,JB];show _++[V.bl (fP (V.str { cps:=(List.toArray [c]) }) [V.str (Str.ofString "0"),V.str (Str.ofString "1")])]=_;rw[Em];rfl
   rintro acc H2 ⟨s2,e2,rfl⟩;rw[dO,Jh] at e2;show#[pL,l.map sY,rfl,aH.of e2,5,?_];by_cases hb:bQ l
   case neg=>exact az (by rw[Bool.not_eq_true']; exact Bool.eq_false_iff.mpr λz=>hb (wE.mp z)) (q2 hb H2 (bT\s2))
   refine au (by rw[wE.mpr hb]; decide) ?_;have hx2:=s2 _ _ hx;have hF2:=hF*>(Same.ers s2);show#[21,x,17,hx2,T.c7.cl,T.jj,#[],?_];have hF3:=hF2;rw[<- dH (o:=.ins t.c_bR dx (cN (Str.ofString "flows") ↥fl []))] at hF3;have hx3:upd H2 x (.ins t.c_bR dx (cN (Str.ofString "flows") ↥fl [])) x=⇑(.ins t.c_bR dx (cN (Str.ofString "flows") ↥fl [])):=aF;have s3:Same (ers x H) (upd H2 x (.ins t.c_bR dx (cN (Str.ofString "flows") ↥fl []))):=(Same.ers s2)\nX;generalize upd H2 x (.ins t.c_bR dx (cN (Str.ofString "flows") ↥fl []))=H3 at hF3 hx3 s3 ⊢;have hF3':=hF3*>bT;let#[dxf,fz,d,kv,nl,wl,o0,o1,o2,o3,o4,o5,o6,o7,o8]:=hF3'.ob;show#[5,fl,33,o1.ob,T.df.cl,T.j6,Fl.lk_number _ _,9,o1.dc 0 #[],λcl hcl=>?_];rw[o2,DO];have s4:=Same.new (o:=.lst (fns.map λf=>V.str f.name)) hcl;have hx4:=s4 _ _ hx3;have nxc:=aY hx3 hcl;have hF4:=hF3*>(Same.ers s4);have s34:=s3\s4;have c4:upd H3 cl (.lst (fns.map λf=>V.str f.name)) cl=⇑(.lst (fns.map λf=>V.str f.name)):=aF;generalize upd H3 cl (.lst (fns.map λf=>V.str f.name))=H4 at hx4 hF4 s34 c4 ⊢;show#[5,x,17,hx4,T.c7.cl,T.ji,(by show 1<1000; decide),21,x,17,aF,T.c7.cl,T.jh,(by show 2<1000; decide),5,x,17,aF,T.c7.cl,T.iY,(by show 3<1000; decide),?_];have eh:∀o1 o2 o3:HO,upd (upd (upd H4 x o1) x o2) x o3=upd H4 x o3:=λo1 o2 o3=>by
     funext b;by_cases hb:b=x
     . subst hb; rw[aF,aF]
     . rw[aR hb,aR hb,aR hb,aR hb]
   rw[eh];refine q1 hb cl _ ((Dc.Same.ers2 s34)\nX) #[#[l,(0),aF,Jd _,rfl,hl],?_,?_,hb,ok]
   . show F2.FlowsAt _ _ (ers x _) _ _;rw[dH];exact hF4
   . show aH _ (ers x _) _ _;rw[dH];exact aH.of (by rw[aU nxc.symm]; exact c4)
def yf:FnScope ["self","count","found"] ["self","count"] (ai mZ):=by walk_at "s"
def rX (T:Txt K mg t):FnOk P w K mg base (ao P w) 1 t.zQ t.AE ["self","count"] (Gi K t):=by
 refine T.fg.F.okE yf (λvs H Q E h=>?_) (λcdv A outer s H vs Q E hr h=>?_)
 . let#[_,_,_,_,rfl,_]:=h;rfl
 . let#[R,fns,r,c,rfl,hc,h,q1,q2]:=h;show#[_,(aI (@aO _ _ 2 _ _ _ _ yf.nd rfl 0x0 (kG yP (da (aB 0) 0x1) (gr (da (aB 0) 0x1)) (gr (aX bL<$>(da (aB 0) 0x1)<*>aB 1))) 0x1 0x2) (aI (al (aq (aX gz) (b6 yx 0x1 T.b_len bR (aB 2>=>aD)) (aB 1) (ac _)) (@aL _ _ _ (gf T.x_bB T.i0_bB rfl gM)) ax) (aI (Ce (aB 0) (aB 1) vx) (~~~(aB 2))))),?_];let#[l,p,ho,hp,rfl,hL]:=h.ob;have hs:∀m:List Nat,m.length<=1000000->(tx m).length<=sizeLine:=λm hm=>by rw[dO];exact Jo hm #[]
   show#[5,R.x,33,ho,T.c7.cl,T.jh,13,R.x,33,ho,T.c7.cl,T.iY,53,R.x,33,ho,T.c7.cl,T.iY,3381,hs l hL,?_];rw[Hx];show#[21,hs _ (by rw[Jp,Kt]; lia),333,?_];have el:(tx ((l.drop p).take c)).length=min c (l.drop p).length:=by rw[dO,Jp]
   by_cases hc':c<=(l.drop p).length
   . refine iN ?_ (by simp only[el,JL]; lia);show#[5,R.x,33,ho,T.c7.cl,T.iY,844,ho,(by show 4<1000; decide),5,q1 _ _ (JJ hc') _ _ nX (h.mv hp hL hc') rfl]
   . exact iP (q2 (JI hc') H bT) (by simp only[el,JL]; lia)
def mD:FnScope ["self","found","k","group"] ["self"] (ai px):=by walk_at "s"
def yR (T:Txt K mg t):FnOk P w K mg base (ao P w) 2 t.zJ t.A8 ["self"] (EZ K t):=by
 have Qe:=rX (P:=P) (w:=w) (base:=base) T;refine T.mJ.F.okE mD (λvs H Q E h=>?_) (λcdv A outer s H vs Q E hr h=>?_)
 . let#[_,_,_,rfl,_]:=h;rfl
 . let#[R,fns,r,rfl,h,q1,q2]:=h;show#[_,(aI (@aO _ _ 1 _ _ _ _ mD.nd rfl 0x0 aE 0x1 0x2) (aI (cK qi rfl (cW rfl T.b_range (jZ T.J0>=>aD)) (aW (i:=2) mD.nd rfl 0x0) (aI (@aO _ _ 3 _ _ _ _ mD.nd rfl 0x0 (eD (aB 0) T.c7.cl T.fg.m Qe 0xC T.fg.b .nil dg (aE>=>aD)) 0x1 0x2) (aI (DD (i:=1) mD.nd rfl 0x0 (IV<$>(eO yS 0x1 T.b_int lB ((kG yP (aB 3) (gr aE) wR)>=>aE>=>aD))<*>(aZ gK<$>aE<*>aB 2)) vx) (@aL _ _ _ (al (aq bq (aM kz (aB 3) aE 0x5) ak (ac _)) (aI (al (@PW.pt _ _ _ (gd (aq bq (aB 3) ak (ac _)) (gn (aq (aX im) (aB 2) aE (ac _))))) (@aL _ _ _ (gf T.x_bB T.i0_bB rfl gM)) ax) (~~~(aB 1))) ax))))) (@aL _ _ _ (gf T.x_bB T.i0_bB rfl gM)))),?_];show#[(16),rfl,#[],#[],?_];refine(let Jv1:Nat->St->Hp->Prop:=λi σ H2=>∃(acc:Nat) (v2 v3:JM V) (r2:List Nat),σ=[⇑↥R.x,⇑(.int acc),v2,v3]/\Same (ers R.x H) H2/\RdAt K t.c_bR t.bG H2 R fns r2/\cw 16 0 0 r=cw (16 - i) i acc r2; fO (lo:=0) (n:=16) Jv1 #[(0),4,r,rfl,bT,h,rfl] ?_ ?_)
   . rintro i σ H2 hi ⟨acc,v2,v3,r2,rfl,s2,h2,e2⟩;obtain⟨l,p,ho,-⟩:=h2.ob;show#[5,R.x,9,ho,rfl,R,fns,r2,(4),rfl,#[],h2,λa r3 ha v H3 s3 h3 hv=>?_,λhn H3 s3=>q2 (by rw[e2]; exact Ef (qf hn)) H3 (sE s2 s3)];subst hv;let#[h4,rfl,rfl]:=qQ ha;let#[b0,b1,b2,b3,r4,rfl]:=wI h4;have hb:∀x∈[b0,b1,b2,b3],x=48\/x=49:=λx hx=>h2.bt x (by simp at hx ⊢; lia);have ei:16 - i=(16 - (i+1))+1:=by lia
     rw[ei] at e2;have e2:cw 16 0 0 r=if b0=48 then(if(b1=48/\b2=48/\b3=48)/\0<i then none else ⇑(acc+bv [b1,b2,b3] * 8 ^ i,r4)) else cw (16 - (i+1)) (i+1) (acc+bv [b1,b2,b3] * 8 ^ i) r4:=e2;have s3:=sE s2 s3;show#[341,(by show 4<=_; decide),_,(bv [b1,b2,b3]:Int),rfl,(by show(Txt.slice (tx (b0::[b1,b2,b3])) (some 1) none,_)∈_;rw[Ea];exact Ds _ (jd (hb b1 0xB)) _ (jd (hb b2 0xB)) _ (jd (hb b3 0xB))),83,.inl #[#[],#[]],19,#[∅,∅,?_],19,?_]
     . have:=(bv3 (hb b1 0xB) (hb b2 0xB) (hb b3 0xB)).1
       lia
     dsimp only;rw[HV];show#[10,(0),b0,7,(by show 4<=_; decide),29,?_];have c0:decide (V.str { cps:=(List.toArray [b0]) }=V.str (Str.ofString "0"))=decide (b0=48):=by have:=kB (a:=[b0]) (b:=[48]);rw[show decide ([b0]=[48])=decide (b0=48) by simp] at this;exact this
     rw[c0];rcases hb b0 0xB with rfl|rfl
     . rw[JJ rfl] at e2;refine iP #[45,?_];have c4:decide (V.str (tx [48,b1,b2,b3])=V.str (Str.ofString "0000"))=decide (b1=48/\b2=48/\b3=48):=by have:=kB (a:=[48,b1,b2,b3]) (b:=[48,48,48,48]);rw[show decide ([48,b1,b2,b3]=[48,48,48,48])=decide (b1=48/\b2=48/\b3=48) by simp] at this;exact this
       have fin:¬ ((b1=48/\b2=48/\b3=48)/\0<i)->Q (.int ((acc+bv [b1,b2,b3] * 8 ^ i:Nat):Int)) H3:=λhn=>q1 _ r4 (by rw[e2,JI hn]) _ H3 s3 h3 rfl;show if decide (V.str (tx [48,b1,b2,b3])=V.str (Str.ofString "0000"))=true then _ else _;rw[c4];by_cases hz:b1=48/\b2=48/\b3=48
       . refine az (by rw[JL]; exact hz) #[333,?_];by_cases h0:0<i
         . exact az (by walk_at "l") (q2 (by rw[e2,JJ #[hz,h0]]) H3 s3)
         . exact au (by walk_at "l") #[5,fin λz=>h0 z.2]
       . exact au (by rw[JL]; exact hz) (iN #[5,fin λz=>hz z.1])
     . rw[JI #[]] at e2;exact iN #[8,r4,rfl,s3,h3,e2]
   . rintro σ H2 ⟨acc,v2,v3,r2,rfl,s2,h2,e2⟩;exact q2 (by rw[e2]; rfl) H2 s2
def xa:FnScope ["self","least","most","found"] ["self","least","most"] (ai oh):=by walk_at "s"
def ou (T:Txt K mg t):FnOk P w K mg base (ao P w) 3 t.zN t.AC ["self","least","most"] (HH K t):=by
 have Qr:=yR (P:=P) (w:=w) (base:=base) T;refine T.gh.F.okE xa (λvs H Q E h=>?_) (λcdv A outer s H vs Q E hr h=>?_)
 . let#[_,_,_,_,_,rfl,_]:=h;rfl
 . let#[R,fns,r,lo,hi,rfl,h,q1,q2]:=h;show#[_,(aI (@aO _ _ 3 _ _ _ _ xa.nd rfl 0x0 (mU (aB 0) T.c7.cl T.mJ.m Qr 0xC T.mJ.b .nil dg) 0x1 0x2) (aI (al (@PW.pt _ _ _ (jm (aq (aX gz) (aB 3) (aB 1) (ac _)) (kq (aq (aX im) (aB 3) (aB 2) (ac _))))) (@aL _ _ _ (gf T.x_bB T.i0_bB rfl gM)) ax) (~~~(aB 3)))),?_];obtain⟨l,p,ho,-⟩:=h.ob;show#[5,R.x,9,ho,rfl,R,fns,r,rfl,h,λn r2 hn v H2 s2 h2 hv=>?_,λhn H2 s2=>q2 (by unfold cR; rw[hn]; rfl) H2 s2];subst hv;have e:cR lo hi r=if lo<=n/\n<=hi then ⇑(n,r2) else none:=by unfold cR; rw[hn]; rfl
   show#[1357,?_];by_cases h1:n<lo
   . exact az (by walk_at "l") (iP (q2 (by rw[e,JI ∅]) H2 s2))
   . refine au (by walk_at "l") #[1357,?_];by_cases h3:hi<n
     . exact az (by walk_at "l") (q2 (by rw[e,JI ∅]) H2 s2)
     . exact au (by walk_at "l") #[5,q1 n r2 (by rw[e,JJ ∅]) _ H2 s2 h2 rfl]
def z9:FnScope ["self","function"] ["self"] (ai nY):=by walk_at "s"
def IR (T:Txt K mg t):FnOk P w K mg base (ao P w) 4 t.zK t.A9 ["self"] (CV K t):=by
 have Qf:=ou (P:=P) (w:=w) (base:=base) T;refine T.uC.F.okE z9 (λvs H Q E h=>?_) (λcdv A outer s H vs Q E hr h=>?_)
 . let#[_,_,_,rfl,_]:=h;rfl
 . let#[R,fns,r,rfl,h,q1,q2]:=h;show#[_,(aI (@aO _ _ 1 _ _ _ _ z9.nd rfl 0x0 (aM 0x6 (da (aB 0) 0x1) (eD (aB 0) T.c7.cl T.gh.m Qf 0xC T.gh.b .nil dg (aE>=>(aX fQ<$>(b6 0x3 0x1 T.b_len bR ((da (aB 0) 0x1)>=>aD))<*>aE)>=>aD)) 0x5) 0x1 0x2) (~~~(aw (aB 1>=>(eD (aB 0) T.c7.cl T.gh.m Qf 0xC T.gh.b .nil dg (aE>=>(aX fQ<$>(b6 0x3 0x1 T.b_len bR ((iw (dq hr.units) (da (da (aB 0) 0x1) 0x1) (aB 1) 0x5)>=>aD))<*>aE)>=>aD))>=>aD)))),?_];obtain⟨l,p,ho,-⟩:=h.ob;have hls:=Same.seq bT h.ls;have n1:1<=fns.length:=by have:=h.ok.n1; unfold b9 at this; rw[J7] at this; exact this
   have e1:(((fns.map λf=>V.str f.name).length:Nat):Int) - 1=((fns.length - 1:Nat):Int):=by rw[J7]; lia
   show#[5,R.x,33,ho,T.c7.cl,T.ji,13,R.x,9,ho,13,R.x,33,ho,T.c7.cl,T.ji,rfl,R.cl,5,.inl hls,19,R,fns,r,(0),fns.length - 1,(by rw[e1]; rfl),h,λk r2 hk v H2 s2 h2 hv=>?_,λhn H2 s2=>q2 (by unfold gV b9; rw[J7,hn]; rfl) H2 s2];subst hv;have hkb:=(jS h.bt hk).2.2.1;obtain⟨f,hfi⟩:∃f,fns[k]?=⇑f:=#[_,JA ∅]
   obtain⟨l2,p2,ho2,-⟩:=h2.ob;have hF2:=h2.fl*>bT;let#[dx,fz,d,kv,nl,wl,o0,o1,o2,o3,o4,o5,o6,o7,o8]:=hF2.ob;have hg:=fH.k (k:=(Sum.inr f.name:aP)) (o1.dc 3 #[]);rw[o5,F2.kD_at _ hF2.nd hfi] at hg;have hfn:=hF2.all f (J9 hfi);have hrl:(b9 fns).getD k 0=f.rs.length:=by unfold b9; rw[JH,JC,hfi]; rfl
   have hp1:=(h.ok.at (k:=k) (by unfold b9; rw[J7]; lia)).1;rw[hrl] at hp1;have e2:(((f.rs.map λw=>V.ref w.r).length:Nat):Int) - 1=((f.rs.length - 1:Nat):Int):=by rw[J7]; lia
   have eo:gV (b9 fns) r=(cR 0 (f.rs.length - 1) r2).map λy=>((k,y.1),y.2):=by unfold gV;rw[show(b9 fns).length=fns.length by unfold b9; rw[J7],hk];show(cR 0 ((b9 fns).getD k 0 - 1) r2).map _=_;rw[hrl]
   show#[R.cl,35,Same.seq bT h2.ls,bY (j:=k) (by rw[JC,hfi]; rfl),?_];show#[21,R.x,9,ho2,13,R.x,33,ho2,T.c7.cl,T.jj,rfl,R.fl,33,o1.ob,T.df.cl,T.jl,Fl.lk_rows _ _,41,hg,f.ra,5,.inr hfn.rw_,19,R,fns,r2,(0),f.rs.length - 1,(by rw[e2]; rfl),h2,λj r3 hj v H3 s3 h3 hv=>?_,λhn H3 s3=>q2 (by rw[eo,hn]; rfl) H3 (sE s2 s3)];subst hv;obtain⟨l3,p3,ho3,-⟩:=h3.ob;show#[bI,λu hu=>?_];have s4:=Same.new (o:=.tup [V.str f.name,V.int j]) hu;have nx:=aY ho3 hu;refine q1 (k,j) r3 (by rw[eo,hj]; rfl) _ _ ((sE s2 s3)\s4) (h3.grow s4) ?_;have q:aJ K (ers R.x (upd H3 u (.tup [V.str f.name,V.int j]))) u [V.str f.name,V.int j]:=aJ.of (by rw[aU nx.symm]; exact aF);exact cQ q (by rw[gj hfi]; exact dQ _) (cx _)
def ko:FnScope ["self","most","sign","left","right"] ["self","most"] (ai ph):=by walk_at "s"
def yn (T:Txt K mg t):∀n,FnOk P w K mg base (ao P w) (n+13) t.pz t.qH ["self","most"] (sw K t n)
| 0=>T.j4.F.okE ko (λvs H Q E h=>by let#[R,fns,r,f,most,rfl,hd,hm,h8,h,q1,q2]:=h; exact absurd hd (Js _)) (λcdv A outer s H vs Q E hr h=>by let#[R,fns,r,f,most,rfl,hd,hm,h8,h,q1,q2]:=h; exact absurd hd (Js _))
| n+1=>by
 have Qg:FnOk P w K mg base CX0 12 t.qE t.qM ["one"] (sW K 10):=vA T 10;have Qj:FnOk P w K mg base (ao P w) (n+13) t.pz t.qH ["self","most"] (sw K t n):=yn T n;have Qe:=rX (P:=P) (w:=w) (base:=base) T;have Qf:=ou (P:=P) (w:=w) (base:=base) T;have Qr:=yR (P:=P) (w:=w) (base:=base) T;refine T.j4.F.okE ko (λvs H Q E h=>?_) (λcdv A outer s H vs Q E hr h=>?_)
 . let#[_,_,_,_,_,rfl,_]:=h;rfl
 . let#[R,fns,r,f,most,rfl,hd,hm,h8,h,q1,q2]:=h;show#[_,(aI (al (aq (aX gz) (aB 1) aE (ac _)) (@aL _ _ _ (gf T.x_bB T.i0_bB rfl gM)) ax) (aI (al (aq bq (eD (aB 0) T.c7.cl T.fg.m Qe (hr.mono ∅) T.fg.b .nil dg (aE>=>aD)) ak (ac _)) (~~~(aw (ak>=>(eD (aB 0) T.c7.cl T.gh.m Qf (hr.mono ∅) T.gh.b .nil dg (aE>=>jZ T.Iy>=>aD))>=>aD))) ax) (aI (al (aq bq (eD (aB 0) T.c7.cl T.fg.m Qe (hr.mono ∅) T.fg.b .nil dg (aE>=>aD)) ak (ac _)) (~~~(aw (ak>=>(mU (aB 0) T.c7.cl T.mJ.m Qr (hr.mono ∅) T.mJ.b .nil dg)>=>aD))) ax) (aI (@aO _ _ 2 _ _ _ _ ko.nd rfl 0x0 (eO yS 0x1 T.b_int lB ((eD (aB 0) T.c7.cl T.fg.m Qe (hr.mono ∅) T.fg.b .nil dg (jZ T.A6>=>aD))>=>aE>=>aD)) 0x1 0x2) (aI (al (aq (aX qV) (aB 2) (b6 0x3 0x1 T.b_len bR (lE T.uJ>=>aD)) (ac _)) (@aL _ _ _ (gf T.x_bB T.i0_bB rfl gM)) ax) (aI (@aO _ _ 3 _ _ _ _ ko.nd rfl 0x0 (eD (aB 0) T.c7.cl T.j4.m Qj (hr.mono ∅) T.j4.b .nil dg ((aX fQ<$>aB 1<*>aE)>=>aD)) 0x1 0x2) (aI (@aO _ _ 4 _ _ _ _ ko.nd rfl 0x0 (eD (aB 0) T.c7.cl T.j4.m Qj (hr.mono ∅) T.j4.b .nil dg ((aX fQ<$>aB 1<*>(aS T.leaves Qg (hr.mono ∅) (aB 3>=>aD)))>=>aD)) 0x1 0x2) (~~~(aw ((aM 0x4 (lE T.uJ) (aB 2) 0x5)>=>aB 3>=>aB 4>=>aD)))))))))),?_];show#[333,?_];by_cases h1:most<1
   . exact az (by walk_at "l") (q2 (GE h1) H bT)
   obtain⟨f,rfl⟩:∃g,f=g+1:=#[f - 1,∅]
   obtain⟨l,p,ho,-⟩:=h.ob;refine au (by walk_at "l") #[5,R.x,9,ho,rfl,R,fns,r,(1),rfl,#[],h,λa r2 ha v H2 s2 h2 hv=>?_,λhn H2 s2=>q2 (by rw[ni hn]; exact Hk) H2 s2];subst hv;let#[b0,rfl,rfl]:=nj ha;obtain⟨l2,p2,ho2,-⟩:=h2.ob;show#[13,?_];rw[u9];rcases h.bt b0 0xB with rfl|rfl
   . refine iP #[5,R.x,9,ho2,rfl,R,fns,r2,(0),(127),rfl,h2,λk r3 hk v H3 s3 h3 hv=>?_,λhn H3 s3=>q2 (by rw[wC h1,hn]; rfl) H3 (sE s2 s3)];subst hv;show#[bI,λu hu=>q1 (.box k) r3 (by rw[wC h1,hk]; rfl) _ _ ((sE s2 s3)\(Same.new hu)) (h3.grow (Same.new hu)) (cQ (h3.newT hu) (dQ _) (cx _))]
   refine iN #[5,R.x,9,ho2,rfl,R,fns,r2,(1),rfl,#[],h2,λa r3 ha v H3 s3 h3 hv=>?_,λhn H3 s3=>q2 (by rw[ni hn]; exact DZ) H3 (sE s2 s3)];subst hv;let#[b1,rfl,rfl]:=nj ha;obtain⟨l3,p3,ho3,-⟩:=h3.ob;have s3:=sE s2 s3;show#[13,?_];rw[u9];rcases h2.bt b1 0xB with rfl|rfl
   . refine iP #[5,R.x,9,ho3,rfl,R,fns,r3,rfl,h3,λk r4 hk v H4 s4 h4 hv=>?_,λhn H4 s4=>q2 (by rw[wG h1,hn]; rfl) H4 (sE s3 s4)];subst hv;show#[bI,λu hu=>q1 (.num k) r4 (by rw[wG h1,hk]; rfl) _ _ ((sE s3 s4)\(Same.new hu)) (h4.grow (Same.new hu)) (cQ (h4.newT hu) (dQ _) (cx _))]
   refine iN #[5,R.x,9,ho3,rfl,R,fns,r3,(4),rfl,#[],h3,λa r4 ha v H4 s4 h4 hv=>?_,λhn H4 s4=>q2 (HQ (qf hn)) H4 (sE s3 s4)];subst hv;let#[g4,rfl,rfl]:=qQ ha;let#[b0,b1,b2,b3,r4,rfl]:=wI g4;have hb:∀x∈[b0,b1,b2,b3],x=48\/x=49:=λx hx=>h3.bt x (by simp at hx ⊢; lia);have s4:=sE s3 s4;show#[_,(bv [b0,b1,b2,b3]:Int),rfl,Bk _ (jd (hb b0 0xB)) _ (jd (hb b1 0xB)) _ (jd (hb b2 0xB)) _ (jd (hb b3 0xB)),5,t.mK,sgTup,rfl,.inr (T.t_SIGNS _),77,?_];have e9:(sgTup.length:Int)=9:=rfl;have e499:=B2 (f:=f) (r:=r4) (a:=b0) (b:=b1) (c:=b2) (d:=b3) h1;generalize bv [b0,b1,b2,b3]=sg at e499 ⊢;by_cases g9:sg<9
   . rw[JJ g9] at e499;obtain⟨l4,p4,ho4,-⟩:=h4.ob;have e1:(most:Int) - 1=((most - 1:Nat):Int):=by lia
     refine au (by rw[JL,e9]; lia) #[5,R.x,9,ho4,211,R,fns,r4,f,most - 1,(by rw[e1]; rfl),∅,∅,∅,h4,λtl r5 hl vl H5 s5 h5 dl=>?_,λhn H5 s5=>q2 (by rw[e499,hn]; rfl) H5 (sE s4 s5)];have hle:=tW f (most - 1) r4 tl r5 h4.bt hl;obtain⟨l5,p5,ho5,-⟩:=h5.ob;have lvt:=hle.2.2.2;have lvp:=lJ tl;have e2:(most:Int) - ((lv tl:Nat):Int)=((most - lv tl:Nat):Int):=by lia
     have e499:bZ (f+1) most (49::49::b0::b1::b2::b3::r4)=(bZ f (most - lv tl) r5).map λy=>(BTr.op sg tl y.1,y.2):=by rw[e499,hl]; rfl
     show#[5,R.x,9,ho5,53,tl,vl,rfl,(by have:=k8 tl; lia),DatV.mono bT _ _ dl,hle.2.1,λH6 s6=>#[19,R,fns,r5,f,most - lv tl,(by rw[e2]; rfl),∅,∅,∅,h5.grow s6,λtr r7 hr vr H7 s7 h7 dr=>?_,λhn H7 s7=>q2 (by rw[e499,hn]; rfl) H7 (sE ((sE s4 s5)\s6) s7)]];show#[5,t.mK,35,T.t_SIGNS _,bY (HI sg g9),21,(by show 3<=_; decide),λu hu=>q1 (.op sg tl tr) r7 (by rw[e499,hr]; rfl) _ _ ((sE ((sE s4 s5)\s6) s7).trans (Same.new hu)) (h7.grow (Same.new hu)) ?_];have s8:=Same.ers (l:=R.x) (Same.new (o:=.tup [V.str (eQ sg),vl,vr]) hu);exact gP (h7.newT hu) (ck (dQ _) (ck (DatV.mono ((Same.ers s6)\((Dc.Same.ers2 s7)\s8)) _ _ dl) (ck (DatV.mono s8 _ _ dr) bK)))
   . rw[JI g9] at e499;exact az (by rw[JL,e9]; lia) (q2 e499 _ s4)
def tK:FnScope ["self","ahead","found"] ["self","ahead"] (ai pf):=by walk_at "s"
def DU (T:Txt K mg t):FnOk P w K mg base (ao P w) 30 t.zP t.AD ["self","ahead"] (CK K t):=by
 have Qe:=rX (P:=P) (w:=w) (base:=base) T;have Qj:FnOk P w K mg base (ao P w) 23 t.pz t.qH ["self","most"] (sw K t 10):=yn T 10;refine T.uE.F.okE tK (λvs H Q E h=>?_) (λcdv A outer s H vs Q E hr h=>?_)
 . let#[_,_,_,_,_,rfl,_]:=h;rfl
 . let#[R,fns,r,a,u,rfl,hu,ha,h,q1,q2]:=h;show#[_,(aI (al (aq bq (eD (aB 0) T.c7.cl T.fg.m Qe 0xC T.fg.b .nil dg (aE>=>aD)) ak (ac _)) (@aL _ _ _ (@aO _ _ 2 _ _ _ _ tK.nd rfl 0x0 (bD ((eD (aB 0) T.c7.cl T.j4.m Qj 0xC T.j4.b .nil dg (jZ T.J2>=>aD))>=>aD)) 0x1 0x2)) (@aL _ _ _ (al (aq bq (eD (aB 0) T.c7.cl T.fg.m Qe 0xC T.fg.b .nil dg (aE>=>aD)) ak (ac _)) (@aL _ _ _ (@aO _ _ 2 _ _ _ _ tK.nd rfl 0x0 (bD (jG>=>aD)) 0x1 0x2)) (@aL _ _ _ (al (vj (K:=K) rfl (aB 1) (by intro _; rfl)) (~~~(aM 0x6 (aB 1) aE 0x5)) (@aL _ _ _ (gf T.x_bB T.i0_bB rfl gM))))))) (aI (al (aq (qT hr.units) (aB 2) (aB 1) (ac _)) (@aL _ _ _ (gf T.x_bB T.i0_bB rfl gM)) ax) (~~~(aM 0x6 (aB 2) aE 0x5)))),?_];let#[aA,ys,rfl,hy,dy]:=cX hu;obtain⟨l,p,ho,-⟩:=h.ob;show#[5,R.x,9,ho,rfl,R,fns,r,(1),rfl,#[],h,λa0 r2 ha0 v H2 s2 h2 hv=>?_,λhn H2 s2=>q2 (by rw[ni hn]; rfl) H2 s2];subst hv;let#[b0,rfl,rfl]:=nj ha0;obtain⟨l2,p2,ho2,-⟩:=h2.ob;show#[13,?_];rw[tx1];have fin:∀(o:JM BTr) (v:V) (r3:List Nat) (H3:Hp) (u:MV) (D:cj),D.rt=Q->Same (ers R.x H) H3->RdAt K t.c_bR t.bG H3 R fns r3->DatV K (ers R.x H3) (bE o) v->cS o->iM a (b0::r2)=(if gF a o=true then none else ⇑(o,r3))->H3 u=none ->
       yZ (wT (tN (jQ (rS K) (pE 2) (pE 1))) (rj t.x_bB E) uY) (xM (jQ (bC K) (pE 2) (tC (V.int 0)))) D [⇑↥R.x,⇑↥aA,⇑↥u] (upd H3 u (.lst [v])):=by
     intro o v r3 H3 u D hD s3 h3 dv po e hu3;subst hD;have s4:=Same.new (o:=.lst [v]) hu3;show#[21,.list [bE o],.list (a.toList.map bE),bO (aH.of aF) (ck (DatV.mono (bT\s4) _ _ dv) bK),DatV.mono (s3\s4) _ _ hu,shp (fW po),shp (λx hx=>ha x ↑hx),5,?_];rw[bes ha po];by_cases hk:gF a o=true
     . exact az hk (q2 (by rw[e,JJ hk]) _ (s3\s4))
     . exact au hk #[5,u,35,aH.of aF,bH,q1 o r3 (by rw[e,JI hk]) v _ (s3\s4) (h3.grow s4) (DatV.mono (Same.ers s4) _ _ dv)]
   rcases h.bt b0 0xB with rfl|rfl
   . refine iN #[5,R.x,9,ho2,rfl,R,fns,r2,(1),rfl,#[],h2,λa1 r3 ha1 v H3 s3 h3 hv=>?_,λhn H3 s3=>q2 (by rw[ni hn]; rfl) H3 (sE s2 s3)];subst hv;let#[b1,rfl,rfl]:=nj ha1;have s3:=sE s2 s3;show#[13,?_];rw[u9];rcases h2.bt b1 0xB with rfl|rfl
     . exact iP #[ci,λu hu=>fin none .non r3 H3 u _ rfl s3 h3 pK trivial rfl hu]
     . refine iN #[10,.inl #[ys,Same.seq s3 hy,rfl],?_];have ly:=bS dy;cases a with
       | none =>
         cases ys with
         | nil=>exact iN (q2 rfl H3 s3)
         | cons y ys=>simp at ly
       | some o =>
         obtain⟨y,rfl,dy1⟩:∃y,ys=[y]/\DatV K (ers R.x H) (bE o) y:=by
           obtain⟨y,ys,rfl,h1,h2⟩:∃y ys',ys=y::ys'/\DatV K (ers R.x H) (bE o) y/\DatAll K (ers R.x H) [] ys':=by have dy:DatAll K (ers R.x H) (bE o::[]) ys:=dy;unfold DatAll at dy;let#[x,r,e,d1,d2]:=dy;show#[x,r,e,d1,d2]
           have:=bS h2;show#[y,by rw[KF.mp this],h1]
         exact az rfl #[5,aA,35,Same.seq s3 hy,bH,q1 o r3 rfl y H3 s3 h3 (DatV.mono (Dc.Same.ers2 s3) _ _ dy1)]
   . refine iP #[5,R.x,9,ho2,rfl,R,fns,r2,(8),(8),rfl,#[],#[],#[],h2,λtr r3 hr v H3 s3 h3 hv=>#[ci,λu hu=>?_],λhn H3 s3=>q2 (by show(bZ 8 8 r2).bind _=none; rw[hn]; rfl) H3 (sE s2 s3)];have hle:=tW 8 8 r2 tr r3 h2.bt hr;exact fin ⇑tr v r3 H3 u _ rfl (sE s2 s3) h3 hv #[hle.2.1,hle.2.2.2] (by show(bZ 8 8 r2).bind _=_; rw[hr]; rfl) hu
def BC:FnScope ["self","count","ahead"] ["self","count","ahead"] (ai my):=by walk_at "s"
def Cy (T:Txt K mg t):FnOk P w K mg base (ao P w) 31 t.zR t.AF ["self","count","ahead"] (Gw K t):=by
 have QF:=DU (P:=P) (w:=w) (base:=base) T;refine T.uF.F.okE BC (λvs H Q E h=>?_) (λcdv A outer s H vs Q E hr h=>?_)
 . let#[_,_,_,_,_,_,rfl,_]:=h;rfl
 . let#[R,fns,r,n,ah,u,rfl,hn,hu,ha,h,q1,q2]:=h;show#[_,(aI (@aa _ _ _ _ (tm (N':=["k","self","ahead"]) (js:=[none,some 0,some 2]) (by kernel_rfl) rfl (cW rfl T.b_range (aB 1>=>aD)) dJ (λ_ _ _ _=>(aW (i:=0) (show(["k","self","ahead"]:List Str).Nodup by decide +kernel) rfl 0x0 (.inr rfl))) (λ_ _ _ _=>cm) (λ_ _ _ _=>(eD (aB 1) T.c7.cl T.uE.m QF 0xC T.uE.b .nil pj ((kG (show fk _ (xP K) from rV) (aB 2) (gr (aB 0)) (gr (aX bL<$>aB 0<*>aE)))>=>aD))))) ax),?_];let#[aA,ys,rfl,hy,dy]:=cX hu;obtain⟨l0,p0,ho,-⟩:=h.ob;show#[5,n,rfl,∅,∅,λpL hpL=>?_];have nxp:=aY ho hpL;have hpE:ers R.x H pL=none:=by rw[aU nxp.symm]; exact hpL
   refine(let Jv1:Nat->List V->Hp->Prop:=λi acc H2=>∃(pl:List (JM BTr)) (r2:List Nat),H2 pL=⇑(.lst acc)/\acc.length=i/\Same (ers R.x H) H2/\RdAt K t.c_bR t.bG H2 R fns r2/\DatAll K (ers R.x H2) (pl.map bE) acc/\il ah i r=⇑(pl,r2); gG (lo:=0) (n:=n) ∅ Jv1 #[[],r,aF,rfl,bT\(Same.new hpL),h.grow (Same.new hpL),bK,rfl] ?_ ?_ ?_)
   . rintro i acc H2 hi ⟨pl,r2,e2,l2,s2,h2,d2,v2⟩;show#[e2,∅]
   . rintro i acc H2 hi ⟨pl,r2,e2,l2,s2,h2,d2,v2⟩;obtain⟨l2',p2,ho2,-⟩:=h2.ob;have s2e:=Dc.Same.ers2 s2;have nx:il ah (i+1) r=(iM ah[i]? r2).map λy=>(pl++[y.1],y.2):=kf v2;rw[Ji];show#[5,R.x,9,ho2,54605,aA,ys,rfl,Same.seq s2 hy,λs hs=>?_];rw[uR];have s3:=Same.new (o:=.lst (ys[i]?).toList) hs;show#[R,fns,r2,ah[i]?,↥s,rfl,bO (h2.newL hs) (DatAll.mono (Same.ers s3) _ _ (wa (DatAll.mono s2e _ _ dy) i)),λo ho=>ha o (J9 ho),h2.grow s3,λo r3 ho v H4 s4 h4 hv=>?_,λhn H4 s4=>q2 (m6 (n:=i+1) (by rw[show dY _ _ _=_ from nx,hn]; rfl) ∅) H4 (sE (s2\s3) s4)];have e4:H4 pL=⇑(.lst acc):=s4 _ _ (by rw[aU nxp.symm]; exact s3 _ _ e2);have s5:Same (ers R.x H) (upd H4 pL (.lst (acc++[v]))):=Same.upd (sE (s2\s3) s4) hpE;show#[e4,pl++[o],r3,aF,by rw[JE,l2]; rfl,s5,h.back h4 s5 (aR nxp),?_,by rw[nx,ho]; rfl];rw[JB];exact yj (by rw[<- JB]; exact pC _) e4 nxp (dZ (DatAll.mono ((Same.ers s3)\(Dc.Same.ers2 s4)) _ _ d2) hv)
   . rintro acc H2 ⟨pl,r2,e2,l2,s2,h2,d2,v2⟩;exact q1 pl r2 v2 _ H2 s2 h2 #[pL,acc,rfl,hpL,e2,d2]
def mE:FnScope ["self","before","chain","views","frame","ahead"] ["self","before"] (ai me):=by walk_at "s"
def IP (T:Txt K mg t):FnOk P w K mg base (ao P w) 32 t.zM t.AB ["self","before"] (FD K t):=by
 have Qp:=vv (P:=P) (w:=w) (base:=base) T;have QG:=IR (P:=P) (w:=w) (base:=base) T;have QH:=Cy (P:=P) (w:=w) (base:=base) T;have Qf:=ou (P:=P) (w:=w) (base:=base) T;refine T.uD.F.okE mE (λvs H Q E h=>?_) (λcdv A outer s H vs Q E hr h=>?_)
 . let#[_,_,_,_,_,rfl,_]:=h;rfl
 . let#[R,fns,r,m0,u,rfl,hu,m0k,h,q1,q2]:=h;show#[_,(aI (@aO _ _ 2 _ _ _ _ mE.nd rfl 0x0 (eO jr 0x1 T.b_tuple ip ((tm (N':=["k","self"]) (js:=[none,some 0]) (by kernel_rfl) rfl (cW rfl T.b_range ((eD (aB 0) T.c7.cl T.gh.m Qf 0xC T.gh.b .nil dg (aE>=>jZ T.Iz>=>aD))>=>aD)) dJ (λ_ _ _ _=>(aW (i:=0) (show(["k","self"]:List Str).Nodup by decide +kernel) rfl 0x0 (.inr rfl))) (λ_ _ _ _=>cm) (λ_ _ _ _=>(mU (aB 1) T.c7.cl T.uC.m QG 0xC T.uC.b .nil pj)))>=>aD)) 0x1 0x2) (aI (@aO _ _ 3 _ _ _ _ mE.nd rfl 0x0 (bD aD) 0x1 0x2) (aI (cK qi rfl (rE true false rfl T.b_zip (aB 2>=>(aS T.views_ahead Qp 0xC (aB 1>=>aB 2>=>aD))>=>aD)) (dC rfl (bP (aW (i:=4) mE.nd rfl 0x0) (bP (aW (i:=5) mE.nd rfl 0x0) dB))) (@aL _ _ _ (@cF _ _ _ _ (bu JN JQ JR cf (aB 3) ((eD (aB 0) T.c7.cl T.uF.m QH 0xC T.uF.b .nil dg ((b6 0x3 0x1 T.b_len bR ((iw (dq hr.units) (da (da (aB 0) 0x1) 0x1) (aM 0x4 (aB 4) aE 0x5) 0x5)>=>aD))>=>aB 5>=>aD))>=>aD)) 0x1))) (~~~(aw (aB 2>=>aB 3>=>aD)))))),?_];obtain⟨l0,p0,ho,-⟩:=h.ob;have nd:=h.fl.nd;have ok:=h.ok;show#[5,R.x,9,ho,rfl,R,fns,r,(1),(3),rfl,h,λn r1 hn v H1 s1 h1 hv=>?_,λhn H2 s2=>q2 (by unfold gI; rw[hn]; rfl) H2 s2];subst hv;have hnb:=jS h.bt hn;have eM:gI (b9 fns) (cE fns) m0 r=(i7 (b9 fns) n r1).bind λch=>(ge (cE fns) m0 ch.1 ch.1.length ch.2).map λv=>((⟨ch.1,v.1⟩:Mk),v.2):=by unfold gI; rw[hn]; rfl
   obtain⟨l1,p1,ho1,-⟩:=h1.ob;show#[n,rfl,∅,∅,λpL hpL=>?_];have nxp:=aY ho1 hpL;have hpE:ers R.x H1 pL=none:=by rw[aU nxp.symm]; exact hpL
   refine(let Jv1:Nat->List V->Hp->Prop:=λi acc H2=>∃(ch:List (Nat×Nat)) (r2:List Nat),H2 pL=⇑(.lst acc)/\acc.length=i/\Same (ers R.x H1) H2/\RdAt K t.c_bR t.bG H2 R fns r2/\DatAll K (ers R.x H2) (ch.map (g8 (cU fns))) acc/\i7 (b9 fns) i r1=⇑(ch,r2); gG (lo:=0) (n:=n) ∅ Jv1 #[[],r1,aF,rfl,bT\(Same.new hpL),h1.grow (Same.new hpL),bK,rfl] ?_ ?_ ?_)
   . rintro i acc H2 hi ⟨ch,r2,e2,l2,s2,h2,d2,v2⟩;show#[e2,∅]
   . rintro i acc H2 hi ⟨ch,r2,e2,l2,s2,h2,d2,v2⟩;obtain⟨l2',p2,ho2,-⟩:=h2.ob;have nx:i7 (b9 fns) (i+1) r1=(gV (b9 fns) r2).map λy=>(ch++[y.1],y.2):=kf v2;show#[5,R.x,9,ho2,rfl,R,fns,r2,rfl,h2,λc r3 hc v H4 s4 h4 hv=>?_,λhn H4 s4=>q2 (by rw[eM,show i7 (b9 fns) n r1=none from m6 (n:=i+1) (by rw[show dY _ _ _=_ from nx,hn]; rfl) ∅]; rfl) H4 (sE s1 (sE s2 s4))];have e4:H4 pL=⇑(.lst acc):=s4 _ _ (by rw[aU nxp.symm]; exact e2);have s5:Same (ers R.x H1) (upd H4 pL (.lst (acc++[v]))):=Same.upd (sE s2 s4) hpE;show#[e4,ch++[c],r3,aF,by rw[JE,l2]; rfl,s5,h1.back h4 s5 (aR nxp),?_,by rw[nx,hc]; rfl];rw[JB];exact yj (by rw[<- JB]; exact iu (oN _) _) e4 nxp (dZ (DatAll.mono (Dc.Same.ers2 s4) _ _ d2) hv)
   rintro acc H2 ⟨ch,r2,e2,l2,s2,h2,d2,v2⟩;let#[g1,g2,g3]:=wx ok h1.bt v2;have eM:gI (b9 fns) (cE fns) m0 r=(ge (cE fns) m0 ch ch.length r2).map λv=>((⟨ch,v.1⟩:Mk),v.2):=by rw[eM,v2]; rfl
   have s02:=sE s1 s2;have hix:∀c∈ch,c.1<fns.length:=λc hc=>by have:=(g3 c hc).1; unfold b9 at this; rw[J7] at this; exact this
   show#[pL,acc,rfl,.inl #[aH.of e2,λTc hT=>?_]];have s3:=Same.new (o:=.tup acc) hT;have h3:=h2.grow s3;have d3:=DatAll.mono (Same.ers (l:=R.x) s3) _ _ d2;have eT3:upd H2 Tc (.tup acc) Tc=⇑(.tup acc):=aF;have nxT:R.x≠Tc:=by obtain⟨l2',p2,ho2,-⟩:=h2.ob; exact aY ho2 hT
   generalize upd H2 Tc (.tup acc)=H3 at s3 h3 d3 eT3 ⊢;show#[c8,λVw hV=>?_];have nxV:R.x≠Vw:=by obtain⟨l3,p3,ho3,-⟩:=h3.ob; exact aY ho3 hV
   have nTV:Tc≠Vw:=aY eT3 hV;have hVH:ers R.x H Vw=none:=(s02\s3).free hV;have hxz:∀z ys,H z=⇑(.lst ys)->R.x≠z:=λz ys hz e=>by rw[<- e,ho] at hz; cases hz
   have hVz:∀z ys,H z=⇑(.lst ys)->Vw≠z:=λz ys hz e=>by rw[<- e] at hz;rw[aU nxV.symm,hz] at hVH;cases hVH
   have s4:=Same.new (o:=.lst []) hV;have h4:=h3.grow s4;have s04:=(s02\s3).trans s4;have eV4:upd H3 Vw (.lst []) Vw=⇑(.lst []):=aF;have d4:=DatAll.mono (Same.ers (l:=R.x) s4) _ _ d3;have eT4:=s4 _ _ eT3;generalize upd H3 Vw (.lst [])=H4 at s4 h4 s04 eV4 d4 eT4 ⊢;obtain⟨l4,p4,ho4,-⟩:=h4.ob;show#[85,u,↥Tc,fns,m0,ch,Vw,R.x,9,eV4,ho4,nd,DatV.mono (gB (gB s04 hVH) lu) _ _ hu,m0k,gP (aJ.of eT4) (DatAll.mono bT _ _ d4),hix,∅,λl xs H5 s5 hl e5 d5=>?_];have lxs:xs.length=ch.length:=by rw[bS d5]; unfold iA; rw[J7,JY]
   have lmin:min acc.length xs.length=ch.length:=by lia
   have h5:=h4.grow s5;have s05:=s04\s5;have eV5:=s5 _ _ eV4;have eT5:=s5 _ _ eT4;have nlV:l≠Vw:=(aY eV4 hl).symm;have nlx:l≠R.x:=(aY ho4 hl).symm;have hx0:ers Vw (ers R.x H5) R.x=none:=by rw[aU nxV]; exact lu
   have d5c:DatAll K (ers Vw (ers R.x H5)) (ch.map (g8 (cU fns))) acc:=DatAll.ersT (iO.lst (by rw[aU nxV.symm]; exact eV5)) _ _ (iu (oN _) _) (DatAll.mono (Same.ers s5) _ _ d4);have sT:aJ K (ers Vw (ers R.x H5)) Tc acc:=aJ.of (by rw[aU nTV,aU nxT.symm]; exact eT5);have sl:aH K (ers Vw (ers R.x H5)) l xs:=aH.of (by rw[aU nlV,aU nlx]; exact e5);rw[Gs] at d5;have sH:Same (ers R.x H) (ers Vw (ers R.x H5)):=gB (Dc.Same.ers2 s05) hVH;have hn0:New (ers R.x H) [Vw]:=#[by simp,λb hb=>by rw[JK.mp hb]; exact hVH]
   show#[Tc,l,rfl,#[_,aJ.of eT5],#[_,aH.of e5],(let Jv2:Nat->St->Hp->Prop:=λi σ H6=>∃(v4 v5:JM V) (ws:List Ua.Vw) (r6:List Nat),σ=[⇑↥R.x,⇑u,⇑↥Tc,⇑↥Vw,v4,v5]/\Same (ers Vw (ers R.x H5)) H6/\RdAt K t.c_bR t.bG H6 R fns r6/\H6 Vw=⇑(.lst (ws.map λw=>V.ref w.p))/\ws.length=i/\(∀w∈ws,jC K H6 w)/\New (ers R.x H) (Vw::ws.map (·.p))/\ge (cE fns) m0 ch i r2=⇑(ws.map (·.pl),r6); xi (b1:=true) (b2:=false) (xs:=acc) (ys:=xs) Jv2 #[4,[],r2,rfl,bT\bT,h5,eV5,rfl,(λw hw=>by cases hw),hn0,rfl] ?_ ?_ ?_)]
   . rintro i σ H6 hi ⟨v4,v5,ws,r6,rfl,s6,h6,eV6,lws,vw6,nw6,w6⟩;show#[s6<*sT,Same.seq s6 sl]
   . rintro i y z σ H6 b hy hz ⟨v4,v5,ws,r6,rfl,s6,h6,eV6,lws,vw6,nw6,w6⟩ hb;have ilt:i<acc.length:=(JF.mp hy).1;let#[c,hc,dc]:=gw d5c hy;let#[fA,x1,x2,rfl,hf,hx1,hx2]:=dE dc;cases ft hx1;have hcl:=hix c (J9 hc);obtain⟨f,hfi⟩:∃f,fns[c.1]?=⇑f:=#[_,JA hcl]
     rw[gj hfi] at hf;have kkc:kk ch i=c.1:=by unfold kk; rw[JH,hc]; rfl
     let#[ah,hah,dah]:=sM d5 hz;have eah:ah=d7 (cP m0 i c.1):=by unfold iA at hah;rw[JC,LD ∅] at hah;have:=Option.some.inj hah;rw[<- this,<- kkc];rfl
     subst eah;have nx:ge (cE fns) m0 ch (i+1) r2=(il (cP m0 i c.1) (F2.nms f).length r6).map λy=>(ws.map (·.pl)++[y.1],y.2):=by refine(kf w6).trans ?_;rw[kkc,lX hfi]
     have s7:=Same.new (o:=.tup [↥fA,z]) hb;show#[b,5,aJ.of aF,403,?_];have h7:=h6.grow s7;have eV7:=s7 _ _ eV6;have vw7:∀w∈ws,jC K (upd H6 b (.tup [↥fA,z])) w:=λw hw=>(vw6 w hw).keep (gy s7) (by rw[(vw6 w hw).1]; exact s7 _ _ (vw6 w hw).1);generalize upd H6 b (.tup [↥fA,z])=H7 at s7 h7 eV7 vw7 ⊢;obtain⟨l7,p7,ho7,-⟩:=h7.ob;have hF7:=h7.fl*>bT;let#[dx,fz,d,kv,nl,wl,o0,o1,o2,o3,o4,o5,o6,o7,o8]:=hF7.ob;have hg:=fH.k (k:=(Sum.inr f.name:aP)) (o1.dc 4 #[]);rw[o6,F2.kD_at _ hF7.nd hfi] at hg;have s67:=s6\s7;have s07:=sH\s67;have l24:(F2.nms f).length<=24:=by have:=ok.cn c.1; rw[lX hfi] at this; exact this
     show#[5,.inl #[6,aH.of eV7],5,R.x,9,ho7,13,R.x,33,ho7,T.c7.cl,T.jj,rfl,R.fl,33,o1.ob,T.df.cl,T.jk,Fl.lk_names _ _,5,fA,35,s67<*hf,bH,9,hg,nl c.1,5,.inl (aH.of (o8 _ _ hfi).1),5,R,fns,r6,(F2.nms f).length,cP m0 i c.1,z,(by rw[J7]; rfl),l24,DatV.mono ((gB s67 hx0)) _ _ dah,(wX m0k i c.1).2,h7,λpl r8 hpl v H8 s8 h8 hv=>?_,λhn H8 s8=>q2 (by rw[eM,show ge (cE fns) m0 ch ch.length r2=none from m6 (n:=i+1) (by rw[show dY _ _ _=_ from nx,hn]; rfl) ∅]; rfl) H8 (sE s07 s8)];let#[lv,ys,rfl,hlv,elv,dlv]:=hv;have eV8:H8 Vw=⇑(.lst (ws.map λw=>V.ref w.p)):=s8 _ _ (by rw[aU nxV.symm]; exact eV7);have nlV:=aY eV7 hlv;have t8:=(xt ho7 s8)\(fb (o:=.lst ((ws.map λw=>V.ref w.p)++[↥lv])) eV8);show#[Vw,19,eV8,bj (n:=(ws.map λw=>V.ref w.p).length+1) (by rw[J7]; lia),4,ws++[#[lv,ys,pl]],r8,rfl,Same.upd ((gB s67 hx0)\s8) lu,h.back h8 (Same.upd (sE s07 s8) hVH) (aR nxV),(by rw[aF,JB]; rfl),by rw[JE,lws]; rfl,λw hw=>?_,?_,by rw[nx,hpl,JB]; rfl]
     . rcases JZ.mp hw with hw|hw
       . have hv7:=(vw7 w hw).1;have n1:w.p≠Vw:=λq=>(KO.mp nw6.nd).1 (JW.mpr #[w,hw,q]);refine(vw7 w hw).keep t8 ?_;rw[aR n1,hv7,s8 _ _ (by rw[aU λq=>by rw[q,ho7] at hv7; cases hv7]; exact hv7)]
       . rw[JK.mp hw];show#[(aR nlV.symm)\elv,DatAll.mono (fb eV8) _ _ (Ua.DatAll.tl _ _ (pC _) (DatAll.mono bT _ _ dlv))]
     . rw[JB];refine nw6.snoc hlv (λb hb=>?_) λb hb=>s07.free hb;rcases JS.mp hb with rfl|hb
       . rw[eV7]; exact λq=>by cases q
       . let#[w,hw,rfl]:=JW.mp hb;rw[(vw7 w hw).1]; exact λq=>by cases q
   . rintro σ H6 ⟨v4,v5,ws,r6,rfl,s6,h6,eV6,lws,vw6,nw6,w6⟩;rw[lmin] at w6;obtain⟨l6,p6,ho6,-⟩:=h6.ob;show#[21,bI,λp hp=>?_];have s7:=Same.new (o:=.tup [↥Tc,↥Vw]) hp;have s67:Same (ers Vw (ers R.x H5)) (ers R.x (upd H6 p (.tup [↥Tc,↥Vw]))):=(gB s6 hx0)\(Same.ers s7);have cT:=gP (s67<*sT) (DatAll.mono s67 _ _ d5c);have s07:=(sH\s6).trans s7;exact q1 #[ch,ws.map (·.pl)] r6 (by rw[eM,w6]; rfl) _ _ s07 (h6.grow s7) #[#[p,Tc,Vw,ch,ws],7,#[qa (aJ.of aF),Ua.DatV.tl _ _ (rp _ _) (DatV.mono bT _ _ cT),s7 _ _ eV6,λw hw=>(vw6 w hw).keep (gy s7) (by rw[(vw6 w hw).1]; exact s7 _ _ (vw6 w hw).1)],nw6]
def lG:FnScope ["self","marks","before","k"] ["self"] (ai oS):=by walk_at "s"
def IL (T:Txt K mg t):FnOk P w K mg base (ao P w) 33 t.zH t.A7 ["self"] (BO K t):=by
 have Qf:=ou (P:=P) (w:=w) (base:=base) T;have QI:=IP (P:=P) (w:=w) (base:=base) T;refine T.uB.F.okE lG (λvs H Q E h=>?_) (λcdv A outer s H vs Q E hr h=>?_)
 . let#[_,_,_,rfl,_]:=h;rfl
 . let#[R,fns,r,rfl,h,q1,q2]:=h;show#[_,(aI (@aO _ _ 1 _ _ _ _ lG.nd rfl 0x0 (bD aD) 0x1 0x2) (aI (@aO _ _ 2 _ _ _ _ lG.nd rfl 0x0 (aw (aw aD>=>bD aD>=>aD)) 0x1 0x2) (aI (cK qi rfl (cW rfl T.b_range ((eD (aB 0) T.c7.cl T.gh.m Qf 0xC T.gh.b .nil dg (aE>=>jZ T.J3>=>aD))>=>aD)) (aW (i:=3) lG.nd rfl 0x0) (aI (@aO _ _ 2 _ _ _ _ lG.nd rfl 0x0 (eD (aB 0) T.c7.cl T.uD.m QI 0xC T.uD.b .nil dg (aB 2>=>aD)) 0x1 0x2) (@aL _ _ _ (@cF _ _ _ _ (bu JN JQ JR cf (aB 1) (aB 2>=>aD)) 0x1)))) (aI (al (aq (aX gz) (da (aB 0) 0x1) (b6 yx 0x1 T.b_len bR ((da (aB 0) 0x1)>=>aD)) (ac _)) (@aL _ _ _ (gf T.x_bB T.i0_bB rfl gM)) ax) (~~~(aB 1)))))),?_];have ok:=h.ok;have hnm:∀m,MFit (b9 fns) (cE fns) m->MOk fns.length m:=λm hm=>by have:=hm.mok ok;unfold b9 at this;rw[J7] at this;exact this
   show#[c8,λL hL=>?_];obtain⟨l0,p0,ho,-⟩:=h.ob;have nxL:=aY ho hL;have hLE:ers R.x H L=none:=by rw[aU nxL.symm]; exact hL
   show#[c8,λc0 hc0=>#[c8,λw0 hw0=>#[bI,λb0 hb0=>?_]]];have hxz:∀z ys,H z=⇑(.lst ys)->R.x≠z:=λz ys hz e=>by rw[<- e,ho] at hz; cases hz
   have hLz:∀z ys,H z=⇑(.lst ys)->L≠z:=λz ys hz e=>by rw[<- e,hL] at hz; cases hz
   have sA:=Same.new (o:=.lst []) hL;have sB:=sA\(Same.new (o:=.tup []) hc0);have sC:=sB\(Same.new (o:=.lst []) hw0);have sD:=sC\(Same.new (o:=.tup [↥c0,↥w0]) hb0);have eL:upd H L (.lst []) L=⇑(.lst []):=aF;have ncL:=(aY eL hc0).symm;have nw0L:=(aY (Same.new (o:=.tup []) hc0 _ _ eL) hw0).symm;have nbL:=(aY (Same.new (o:=.lst []) hw0 _ _ (Same.new (o:=.tup []) hc0 _ _ eL)) hb0).symm;have eLD:=Same.new (o:=.tup [↥c0,↥w0]) hb0 _ _ (Same.new (o:=.lst []) hw0 _ _ (Same.new (o:=.tup []) hc0 _ _ eL));have ncx:=(aY (sA _ _ ho) hc0).symm;have nwx:=(aY (sB _ _ ho) hw0).symm;have nbx:=(aY (sC _ _ ho) hb0).symm;have d0:DatV K (ers L (ers R.x (upd (upd (upd (upd H L (.lst [])) c0 (.tup [])) w0 (.lst [])) b0 (.tup [↥c0,↥w0])))) (eY (cU fns) cY) ↥b0 :=
     cQ (aJ.of (by rw[aU nbL,aU nbx]; exact aF)) (gP (aJ.of (by rw[aU ncL,aU ncx]; exact Same.new hb0 _ _ (Same.new hw0 _ _ aF))) bK) (bO (aH.of (by rw[aU nw0L,aU nwx]; exact Same.new hb0 _ _ aF)) bK)
   have h1:=h.grow sD;generalize upd (upd (upd (upd H L (.lst [])) c0 (.tup [])) w0 (.lst [])) b0 (.tup [↥c0,↥w0])=H1 at sD eLD d0 h1 ⊢;obtain⟨l1,p1,ho1,-⟩:=h1.ob;have s01:Same (ers R.x H) H1:=bT\sD;show#[5,R.x,9,ho1,rfl,R,fns,r,(1),(200),rfl,h1,λn r1 hn v H2 s2 h2 hv=>?_,λhn H2 s2=>q2 (by unfold jD; rw[hn]; rfl) H2 (sE s01 s2)];subst hv;have hnb:=jS h.bt hn;have eR:jD (b9 fns) (cE fns) r=(gJ (b9 fns) (cE fns) n r1).bind λy=>if y.2=[] then ⇑(y.1,[]) else none:=by unfold jD; rw[hn]; rfl
   have eL2:H2 L=⇑(.lst []):=s2 _ _ (by rw[aU nxL.symm]; exact eLD);show#[n,rfl,∅,∅,?_];have hn0:New (ers R.x H) (L::([]:List Ma).flatMap dw):=#[by simp,λb hb=>by rw[JK.mp hb]; exact hLE]
   refine(let Jv1:Nat->St->Hp->Prop:=λi σ H3=>∃(v3:JM V) (bw:V) (mas:List Ma) (r3:List Nat),σ=[⇑↥R.x,⇑↥L,⇑bw,v3]/\Same (ers R.x H) H3/\RdAt K t.c_bR t.bG H3 R fns r3/\H3 L=⇑(.lst (mas.map λm=>V.ref m.a))/\mas.length=i/\(∀m∈mas,MaAt K (cU fns) H3 m)/\New (ers R.x H) (L::mas.flatMap dw)/\DatV K (ers L (ers R.x H3)) (eY (cU fns) (dS (mas.map Ma.mk') i)) bw/\gJ (b9 fns) (cE fns) i r1=⇑(mas.map Ma.mk',r3); fO (lo:=0) (n:=n) Jv1 #[4,[],r1,rfl,sE s01 s2,h2,eL2,rfl,(λm hm=>by cases hm),hn0,DatV.mono (Same.ers (Dc.Same.ers2 s2)) _ _ d0,rfl] ?_ ?_)
   . rintro i σ H3 hi ⟨v3,bw,mas,r3,rfl,s3,h3,e3,l3,m3,n3,b3,w3⟩;obtain⟨l3',p3,ho3,-⟩:=h3.ob;obtain⟨-,lms,fit⟩:=Fw ok h2.bt w3;have nx:gJ (b9 fns) (cE fns) (i+1) r1=(gI (b9 fns) (cE fns) (dS (mas.map Ma.mk') i) r3).map λy=>(mas.map Ma.mk'++[y.1],y.2):=kf w3;show#[5,R.x,9,ho3,13,R,fns,r3,dS (mas.map Ma.mk') i,bw,rfl,DatV.mono bT _ _ b3,Bm (wM _) (λm hm=>hnm m (fit m hm)) i,h3,λm r4 hm v H4 s4 h4 hv=>?_,λhn H4 s4=>q2 (by rw[eR,show gJ (b9 fns) (cE fns) n r1=none from m6 (n:=i+1) (by rw[show dY _ _ _=_ from nx,hn]; rfl) ∅]; rfl) H4 (sE s3 s4)];have eL3:ers R.x H3 L=⇑(.lst (mas.map λm=>V.ref m.a)):=by rw[aU nxL.symm]; exact e3
     have e4:=s4 _ _ eL3;obtain⟨l4,p4,ho4,-⟩:=h4.ob;let#[ma,rfl,rfl,hma,nma]:=hv;have nL:L ∉ dw ma:=λz=>by have:=nma.nw _ z; rw[eL3] at this; cases this
     have fm:(mas++[ma]).flatMap dw=mas.flatMap dw++dw ma:=by rw[K6,KN,Lb,Jq]
     show#[5,.inl #[6,aH.of e4],5,L,19,e4,bj (n:=(mas.map λm=>V.ref m.a).length+1) (by rw[J7]; lia),_,↥ma.a,mas++[ma],r4,rfl,Same.upd (sE s3 s4) hLE,h.back h4 (Same.upd (sE s3 s4) hLE) (aR nxL),(by rw[aF,JB]; rfl),by rw[JE,l3]; rfl,λm hm'=>?_,?_,?_,by rw[nx,hm,JB]; rfl]
     . rcases JZ.mp hm' with q|q
       . exact((m3 m q).step ho3 s4).put e4 λz=>(KO.mp n3.nd).1 (Jw.mpr #[m,q,z])
       . rw[JK.mp q];exact hma.put e4 nL
     . rw[fm];refine n3.join (os:=L::mas.flatMap dw) nma (λb hb=>?_) λb hb=>(Dc.Same.ers2 s3).free hb;rcases JS.mp hb with rfl|hb
       . rw[eL3]; exact λq=>by cases q
       . let#[m,hm',hb]:=Jw.mp hb;let#[ys,z]:=(m3 m hm').live b hb;rw[aU ((m3 m hm').nox ho3 b hb),z];exact λq=>by cases q
     . rw[JB,show [ma].map Ma.mk'=[ma.mk'] from rfl,BE (by rw[J7]; exact l3)];exact hma.dat2 ho4 e4 nL
   . rintro σ H3 ⟨v3,bw,mas,r3,rfl,s3,h3,e3,l3,m3,n3,b3,w3⟩;let#[l,p,ho3,hp,hd,hl]:=h3.ob;show#[5,R.x,33,ho3,T.c7.cl,T.iY,13,R.x,33,ho3,T.c7.cl,T.jh,13,(by rw[dO]; exact Jo hl #[]),77,?_];rw[dO];by_cases hpl:p<l.length
     . exact az (by walk_at "l") (q2 (by rw[eR,w3]; exact JI (by show ¬ r3=[]; rw[<- hd]; exact λz=>by have:=Jj List.length z; rw[Kt] at this; simp at this; lia)) H3 s3)
     . have h0:r3=[]:=by rw[<- hd]; exact L7 ∅
       subst h0;exact au (by walk_at "l") #[5,q1 (mas.map Ma.mk') [] (by rw[eR,w3]; rfl) _ H3 s3 h3 #[L,mas,7,e3,m3,n3]]
def xu:FnScope ["program","rows","flows"] ["program","rows"] (ai pc):=by walk_at "s"
def FG (T:Txt K mg t):FnOk P w K mg base (ao P w) 34 t.A2 t.Am ["program","rows"] (DK K t):=by
 have Qq:=uT (P:=P) (w:=w) (base:=base) T;have QJ:=Cv (P:=P) (w:=w) (base:=base) T;have QK:=IL (P:=P) (w:=w) (base:=base) T;refine T.unpack.F.okE xu (λvs H Q E h=>?_) (λcdv A outer s H vs Q E hr h=>?_)
 . let#[_,_,_,_,rfl,_]:=h;rfl
 . let#[p,rl,fns,ls,rfl,hp,hf,nd,ok,hrl,hl,q1,q2]:=h;show#[_,(aI (al (aq rN (b6 0x3 0x1 T.b_len bR (aB 1>=>aD)) (b6 0x3 0x1 T.b_len bR (aB 0>=>aD)) (ac _)) (@aL _ _ _ (gf T.x_bB T.i0_bB rfl gM)) ax) (aI (@aO _ _ 2 _ _ _ _ xu.nd rfl (Or.inr rfl) (yd T.df T.uG Qq 0xC (aB 0>=>aD)) 0x1 0x2) (~~~(tm (N':=["function","row","flows"]) (js:=[none,none,some 2]) (by kernel_rfl) rfl (rE false false rfl T.b_zip (aB 0>=>aB 1>=>aD)) (n6 (j2 (j2 nt))) (λ_ _ _ _=>(show PG _ _ (jt K 2 _) from dC (n:=2) rfl (bP (aW (i:=0) (show(["function","row","flows"]:List Str).Nodup by decide +kernel) rfl 0x0 (.inr rfl)) (bP (aW (i:=1) (show(["function","row","flows"]:List Str).Nodup by decide +kernel) rfl 0x0 (.inr rfl)) dB)))) (λ_ _ _ _=>cm) (λ_ _ _ _=>(aw ((aM 0x4 (aB 0) aE 0x5)>=>(mU (Df T.c7 T.zG QJ 0xC pj (aB 2>=>aB 1>=>aD)) T.c7.cl T.uB.m QK 0xC T.uB.b .nil pj)>=>aD))))))),?_];have lst:(dI ls).length=ls.length:=oG ls;have lfn:(fns.map λf=>V.ref f.fa).length=fns.length:=J7 _;show#[5,rl,5,.inl hrl,5,p,5,.inl hp,13,?_];rw[lst,lfn];have n12:fns.length<=12:=by have:=ok.n12; unfold b9 at this; rw[J7] at this; exact this
   have n0:fns≠[]:=λz=>by have:=ok.n1; unfold b9 at this; rw[z] at this; simp at this
   by_cases hlen:ls.length=fns.length
   case neg=>exact az (by simp; lia) (q2 (JI hlen) H (Same.refl _))
   refine au (by simp; lia) ?_;show#[5,λfl dx nx ndx nex=>?_];have s0:Same H (upd (upd H dx (.own fl)) fl (.ins t.bG dx [])):=λb o e=>by rw[aR (aY e nx),aR (aY e ndx)];exact e
   have s1':Same H (ers fl (upd (upd H dx (.own fl)) fl (.ins t.bG dx []))):=λb o e=>by rw[dH,aU (aY e nx),aR (aY e ndx)];exact e
   show#[fl,dx,p,fns,rfl,aF,s1'.seq hp,n0,n12,λf hf'=>(hf f hf')*>s1',nd,λH1 s1 hF=>#[rfl,?_]];have s01:Same H H1:=λb o e=>s1 b o (by rw[aU (aY e nx)]; exact s0 b o e);show#[21,p,rl,rfl,#[_,s01.seq hp],#[_,s01.seq hrl],λpL hpL=>?_];have hn0:New H1 (pL::([]:List En).flatMap di):=#[by simp,λb hb=>by rw[JK.mp hb]; exact hpL]
   refine Gq (b1:=false) (b2:=false) (xs:=fns.map λf=>V.ref f.fa) (ys:=dI ls) ∅ (λi acc H2=>Same H1 H2/\H2 pL=⇑(.lst acc)/\∃es:List En,acc=(es.map λe=>V.ref e.e)/\es.length=i/\(∀(k:Nat) ms,(aT es)[k]?=⇑ms->∃l,ls[k]?=⇑l/\gY (b9 fns) (cE fns) l=⇑ms)/\(∀(k:Nat) en,es[k]?=⇑en->EnAt K (cU fns) H2 k en)/\New H1 (pL::es.flatMap di)) #[Same.new hpL,aF,[],7,(λk ms z=>by cases z),(λk en z=>by cases z),hn0] ?_ ?_ ?_
   . rintro i acc H2 hi ⟨s2,e2,es,rfl,l2,-⟩;show#[e2,by rw[J7]; lia,(s01\s2).seq hp,(s01\s2).seq hrl]
   . rintro i y z acc H2 b hy hz ⟨s2,e2,es,rfl,l2,hm,hE,nE⟩ hb;rw[JC] at hy;obtain⟨f,hfi⟩:∃f,fns[i]?=⇑f:=by cases e:fns[i]? with|none=>rw[e] at hy; cases hy|some f=>exact⟨f,rfl⟩
     rw[hfi] at hy;cases hy;unfold dI at hz;rw[JC,JC] at hz;obtain⟨l,hli⟩:∃l,ls[i]?=⇑l:=by cases e:ls[i]? with|none=>rw[e] at hz; cases hz|some l=>exact⟨l,rfl⟩
     rw[hli] at hz;cases hz;have hfn:=(hf f (J9 hfi))*>(s01\s2);have lmem:=J9 hli;have s3:=Same.new (o:=.tup [V.ref f.fa,V.str (tx l)]) hb;show#[b,5,aJ.of aF,403,?_];generalize upd H2 b (.tup [V.ref f.fa,V.str (tx l)])=H3 at s3 ⊢;have s23:=s2\s3;show#[5,f.fa,35,s3<*hfn.fn,bH,21,λx dx2 nx2 ndx2 nex2=>?_];have s4:Same H3 (ers x (upd (upd H3 dx2 (.own x)) x (.ins t.c_bR dx2 []))):=λb o e=>by rw[dH,aU (aY e nx2),aR (aY e ndx2)];exact e
     have bad:gY (b9 fns) (cE fns) l=none->∀H',Same H1 H'->E ↥t.x_bB none H':=λhn H' s'=>q2 (by unfold gv; rw[JJ hlen]; exact uh lmem hn) H' (s01\s');show#[x,dx2,fl,fns,l,rfl,aF,hF*>(s23\s4),ok,hl l lmem,λhb cl H5 s5 h5=>#[rfl,?_],λhb H5 s5=>bad (by unfold gY; rw[JI hb]) H5 ((s23\s4).trans s5)];obtain⟨l5,p5,ho5,-⟩:=h5.ob;have s35:=s4\s5;have s3x:Same H3 (ers x H5):=gB s35 nx2;have eA:gY (b9 fns) (cE fns) l=(jD (b9 fns) (cE fns) l).map (·.1):=by rw[E3,JJ hb]
     show#[x,9,ho5,rfl,#[x,dx2,fl,cl],fns,l,rfl,h5,λms r6 hms v H6 s6 h6 hv=>?_,λhn H6 s6=>bad (by rw[eA,hn]; rfl) H6 ((s23\s3x).trans s6)];have eAll:gY (b9 fns) (cE fns) l=⇑ms:=by rw[eA,hms]; rfl
     let#[lL,mas,rfl,rfl,elL,hmas,nmas]:=hv;have s36:=s3x\s6;have s16:=s23\s36;have e3:=s3 _ _ e2;have ex5:=s3x _ _ e3;have e6:=s36 _ _ e3;have npE:∀e',pL ∉ di ⟨e',lL,mas⟩:=λe' z=>by have:=(nmas.entry (e:=e')).nw _ z; rw[ex5] at this; cases this
     show#[bI,λq hq=>?_];have s7:=Same.new (o:=.tup [V.str f.name,V.ref lL]) hq;have e7:=s7 _ _ e6;have s27:=(s3\s36).trans s7;show#[e7,(s16\s7).upd hpL,aF,es++[#[q,lL,mas]],(by rw[JB]; rfl),by rw[JE,l2]; rfl,λk ms' hk=>?_,λk en hk=>?_,?_]
     . unfold aT at hk;rw[JB] at hk;rcases mC hk with⟨_,hk⟩|⟨rfl,rfl⟩
       . exact hm k ms' hk
       . rw[J7,l2];show#[l,hli,eAll]
     . rcases mC hk with⟨_,hk⟩|⟨rfl,rfl⟩
       . exact((hE k en hk)*>s27).put e7 λz=>(KO.mp nE.nd).1 (Jw.mpr #[en,J9 hk,z])
       . refine EnAt.put #[?_,s7 _ _ elL,λm hm=>(hmas m hm)*>s7] e7 (npE q);rw[l2,gj hfi];exact qa (aJ.of aF)
     . have fm:(es++[(⟨q,lL,mas⟩:En)]).flatMap di=es.flatMap di++di ⟨q,lL,mas⟩:=by rw[K6,KN,Lb,Jq]
       rw[fm];refine nE.join (os:=pL::es.flatMap di) nmas.entry (λb hb=>?_) λb hb=>(s23\s3x).free hb;rcases JS.mp hb with rfl|hb
       . rw[ex5]; exact λq=>by cases q
       . let#[en,hen,hb]:=Jw.mp hb;let#[k,hk]:=K0 hen;let#[ys,z]:=(hE k en hk).live b hb;rw[s3x _ _ (s3 _ _ z)];exact λq=>by cases q
   . rintro acc H2 ⟨s2,e2,es,rfl,l2,hm,hE,nE⟩;have lmin:min (fns.map λf=>V.ref f.fa).length (dI ls).length=ls.length:=by lia
     rw[lmin] at l2;have lm:(aT es).length=ls.length:=by unfold aT; rw[J7,l2]
     have hall:jK (gY (b9 fns) (cE fns)) ls=⇑(aT es):=lN lm λk a b ha hb=>by let#[l,h1,h2]:=hm k b hb;rw[ha] at h1;cases h1;exact h2
     exact q1 (aT es) (by unfold gv; rw[JJ hlen]; exact hall) pL es H2 (s01\s2) #[e2,hE] rfl #[nE.nd,λb hb=>s01.free (nE.nw b hb)]
def tH:FnScope ["_law_script","_law_k","_law_seed"] ["_law_script","_law_k"] (ai nH):=by walk_at "s"
def og (T:Txt K mg t):FnOk P w K mg base CX0 1 t.zc t.AQ ["_law_script","_law_k"] (Ca K):=by
 refine T.fN.F.ok tH (λvs H Q E h=>?_) (λcdv A outer s H vs Q E hr h=>?_)
 . let#[_,_,_,rfl,_]:=h;rfl
 . let#[a,ns,k,rfl,hS,hl,h0,h1,q]:=h;show#[_,(aI (al (aq (aX gz) (aB 1) (b6 0x3 0x1 T.b_len bR (aB 0>=>aD)) (ac _)) (~~~(aM 0x6 (aB 0) (aB 1) 0x5)) ax) (aI (@aO _ _ 2 _ _ _ _ tH.nd rfl 0x0 aE 0x1 0x2) (fX (al (aq (aX im) (b6 0x3 0x1 T.b_len bR (aB 0>=>aD)) aE (ac _)) (@aL _ _ _ (@aO _ _ 2 _ _ _ _ tH.nd rfl 0x0 (aZ c9<$>(aM 0x6 (aB 0) (aZ c9<$>aB 1<*>(b6 0x3 0x1 T.b_len bR (aB 0>=>aD))) 0x5)<*>aE) 0x1 0x2)) ax) (~~~(aZ c9<$>(aZ gK<$>(aX bL<$>(aX bL<$>aB 2<*>(aZ gK<$>aE<*>aB 1))<*>aE)<*>(aX bL<$>(aX bL<$>aB 2<*>(aZ gK<$>aE<*>aB 1))<*>aE))<*>aE))))),?_];have hlen:(ns.map V.int).length=ns.length:=J7 _;show#[21,a,5,.inl hS,77,?_];refine eP (λc=>?_) (λc=>?_)
   . have c:=dX c;rw[hlen] at c;show#[21,a,35,hS,tO h0 c,vq ?_ q];unfold dG;rw[JJ c]
   have c:¬ k<(ns.length:Int):=by rw[JL,hlen] at c; exact c
   show#[λσ H'=>H'=H/\σ=[⇑↥a,⇑(.int k),⇑(.int (iL ns k))]/\0<=iL ns k/\iL ns k<999983,?_,?_]
   . show#[5,a,5,.inl hS,77,?_];refine eP (λc2=>?_) (λc2=>?_)
     . have c2:=dX c2;rw[hlen] at c2;have m:=cG (ns.getD (k%(ns.length:Int)).toNat 0) 999983 #[];have es:iL ns k=ns.getD (k%(ns.length:Int)).toNat 0%999983:=by unfold iL; rw[JJ c2]
       have hz:=tO (cs:=ns) (i:=k%(ns.length:Int)) (Int.emod_nonneg _ ∅) (Int.emod_lt_of_pos _ c2);show#[85,a,5,.inl hS,19,(by rw[hlen]; exact c2),a,35,hS,(by rw[hlen]; exact hz),19,(show(0:Int)<999983 by decide),rfl,?_,?_,?_]
       . rw[es];rfl
       . rw[es]; exact m.1
       . rw[es]; exact m.2
     . have es:iL ns k=7:=by unfold iL;rw[JI (by rw[JL,hlen] at c2; exact c2)]
       rw[es];show#[7,#[],#[]]
   . rintro σ H' ⟨rfl,rfl,b1,b2⟩;show#[339,.inl #[#[],#[]],78675,.inl #[#[],#[]],4915,.inl #[∅,∅],19,(show(0:Int)<1000003 by decide),vq ?_ q];unfold dG;rw[JI c]
def we:FnScope ["_law_cell_here","_law_j","_law_many","_law_primes"] ["_law_cell_here","_law_j","_law_many"] (ai mx):=by walk_at "s"
def ir (T:Txt K mg t):FnOk P w K mg base CX0 1 t.zk t.AY ["_law_cell_here","_law_j","_law_many"] (Ii K):=by
 refine T.cV.F.ok we (λvs H Q E h=>?_) (λcdv A outer s H vs Q E hr h=>?_)
 . let#[_,_,_,rfl,_]:=h;rfl
 . let#[c,j,m,rfl,h0,h1,q]:=h;show#[_,(aI (@aO _ _ 3 _ _ _ _ we.nd rfl 0x0 (@wJ _ _ [V.int 10007,V.int 10009,V.int 10037,V.int 10039,V.int 10061,V.int 10067,V.int 10069,V.int 10079] (by kernel_rfl)) 0x1 0x2) (~~~(aZ c9<$>(aZ c9<$>(aX bL<$>(aZ gK<$>aB 0<*>aE)<*>(aZ gK<$>aE<*>aB 1))<*>(aM 0x4 (aB 3) (aZ c9<$>aB 1<*>aE) 0x5))<*>aB 2))),?_];show#[(by show 8<=sizeLine; decide),λp hp=>?_];show#[83,.inr #[#[],#[]],83,.inl #[#[],#[]],4947,(show(0:Int)<8 by decide),p,35,aJ.of aF,By j,19,C6 j,83,h1,q _ (Same.new hp)]
def mH:FnScope ["_law_cell_here","_law_k","_law_letters","_law_size","_law_some","_law_name_here"] ["_law_cell_here","_law_k"] (ai oV):=by walk_at "s"
def tE (T:Txt K mg t):FnOk P w K mg base CX0 2 t.zj t.AX ["_law_cell_here","_law_k"] (HW K):=by
 have Qa:=ir (P:=P) (w:=w) (base:=base) T;refine T.j5.F.ok mH (λvs H Q E h=>?_) (λcdv A outer s H vs Q E hr h=>?_)
 . let#[_,_,rfl,_]:=h;rfl
 . let#[b,k,rfl,q]:=h;show#[_,(aI (@aO _ _ 2 _ _ _ _ mH.nd rfl (Or.inr rfl) ak 0x1 0x2) (aI (@aO _ _ 3 _ _ _ _ mH.nd rfl 0x0 (aX bL<$>aE<*>(aS T.cV Qa 0xC (aB 0>=>aE>=>aE>=>aD))) 0x1 0x2) (aI (mB (i:=4) mH.nd rfl 0x0 (N':=["_law_j","_law_letters","_law_cell_here"]) (js:=[none,some 2,some 0]) (by kernel_rfl) rfl (cW rfl T.b_range (aB 3>=>aD)) dJ (λ_ _ _ _=>(aW (i:=0) (show(["_law_j","_law_letters","_law_cell_here"]:List Str).Nodup by decide +kernel) rfl 0x0 (.inr rfl))) (λ_ _ _ _=>cm) (λ_ _ _ _=>(aM kz (aB 1) (aS T.cV Qa 0xC (aB 2>=>aB 0>=>aE>=>aD)) 0x5)) 0x1) (aI (i5 (aM kz (aB 2) (aZ c9<$>(aX bL<$>(aS T.cV Qa 0xC (aB 0>=>aE>=>aE>=>aD))<*>aB 1)<*>aE) 0x5) (kC (aB 4) (aS T.cV Qa 0xC (aB 0>=>aE>=>aB 3>=>aD)) ka)) (aI (@aO _ _ 5 _ _ _ _ mH.nd rfl 0x0 (bu KW Kd Ke k7 ak (aB 4>=>aD)) 0x1 0x2) (aI (al (aq ju (aB 5) (@wJ _ _ [V.str "fn",V.str "in",V.str "new",V.str "get",V.str "put",V.str "call",V.str "out",V.str "if",V.str "while",V.str "else",V.str "end",V.str "back"] (by kernel_rfl)) (by with_unfolding_all rfl)) (~~~(gU<$>aB 5<*>ak)) ax) (~~~(aB 5)))))))),?_];have wb:=qq b;have ab:=yC b;have lf:K12.lets.length<=sizeLine:=by decide +kernel
   show#[5,b,(8),(8),rfl,#[],#[],λH1 s1=>#[19,?_]];show(λx H1=>_) (V.int (1+bM b 8 8)) H1;rw[<- wb.2.2];show#[21,∅,∅,λu hu=>(let Jv1:Nat->List V->Hp->Prop:=λi acc H2=>Same H1 H2/\H2 u=⇑(.lst acc)/\acc=(List.range i).map λj:Nat=>V.str (tx [K41.lc (bM b j 26)]); gG (lo:=0) (n:=fR b) ∅ Jv1 #[Same.new hu,aF,rfl] ?_ ?_ ?_)]
   . rintro i acc H2 hi ⟨s2,e2,rfl⟩;show#[e2,by rw[J7,JY]; exact JG _]
   . rintro i acc H2 hi ⟨s2,e2,rfl⟩;have bi:=fM b i 26 #[];show#[85,b,0+(i:Int),(26),rfl,∅,#[],λH3 s3=>#[4,K41.lc (bM b (0+(i:Int)) 26),7,lf,?_,s3 _ _ e2,(s2\s3).upd hu,aF,?_]]
     . exact K41.lc_at (z:=bM b (0+(i:Int)) 26) (by rw[Ji]; exact bi.1) (by rw[Ji]; exact bi.2)
     . rw[Jy,JB,Ji];rfl
   rintro acc H2 ⟨s2,e2,rfl⟩;have bk:=cG (bM b 10 26+k) 26 #[];have s02:=s1\s2;have hu0:H u=none:=s1.free hu;show#[21,b,(10),(26),rfl,#[],#[],λH3 s3=>#[1331,(show(0:Int)<26 by decide),35,lf,K41.lc_at bk.1 bk.2,?_]];show#[85,b,(9),(fR b:Int),rfl,#[],∅,λH4 s4=>?_];have e4:=s4 _ _ (s3 _ _ e2);rw[show bM b 9 (fR b:Int)=((iH b:Nat):Int) by rw[ab.2,wb.2.2]];show#[u,35,e4,ixI ∅ (by rw[J7,JY]; lia),?_];rw[K3,show(V.str #[(List.toArray [K41.lc ((bM b 10 26+k)%26)])])=V.str (tx [K41.lc ((bM b 10 26+k)%26)]) from rfl,Cb];have s5:Same H (upd H4 u (.lst ((((wk b k).map λc=>[c]).map tx).map V.str))):=((s02\s3).trans s4).upd hu0;have e5:=aF (H:=H4) (a:=u) (o:=.lst ((((wk b k).map λc=>[c]).map tx).map V.str));generalize upd H4 u (.lst ((((wk b k).map λc=>[c]).map tx).map V.str))=H5 at s5 e5 ⊢;have wl:=oP b k;have fs:((wk b k).map λc=>[c]).flatten=wk b k:=wo _;show#[26,u,11,aH.of e5,mP (by rw[fs]; lia),?_];rw[jL,fs];show#[5,(by show 12<=sizeLine; decide),λtl htl=>#[tl,5,.inr (aJ.of aF),rfl,0xA,5,?_]];have s6:=s5\(Same.new (o:=.tup K41.tkV) htl);refine eP (λc=>?_) (λc=>?_)
   . show#[83,(by rw[dO,wl]; exact bj (by show fR b+1<1000000; lia)),vq ?_ (q _ s6)];have c:fP (.str (tx (wk b k))) K41.tkV=true:=c;unfold aj;rw[JJ c,show(("z":Str))=tx [122] from rfl,fY]
   . show#[5,vq ?_ (q _ s6)];have c:¬ fP (.str (tx (wk b k))) K41.tkV=true:=c;unfold aj;rw[JI c]
def fh:FnScope ["_law_cell_here","_law_k","_law_base","_law_big","_law_params","_law_more","_law_blocks","_law_rows","_law_names"] ["_law_cell_here","_law_k","_law_base","_law_big"] (ai ot):=by walk_at "s"
def EJ (T:Txt K mg t):FnOk P w K mg base CX0 3 t.zh t.AV ["_law_cell_here","_law_k","_law_base","_law_big"] (Ci K):=by
 have Qa:=ir (P:=P) (w:=w) (base:=base) T;have Qc:=tE (P:=P) (w:=w) (base:=base) T;refine T.Ax.F.ok fh (λvs H Q E h=>?_) (λcdv A outer s H vs Q E hr h=>?_)
 . let#[_,_,_,_,rfl,_]:=h;rfl
 . let#[c,k,b,big,rfl,k0,k1,q]:=h;show#[_,(aI (@aO _ _ 4 _ _ _ _ fh.nd rfl (Or.inr rfl) (aS T.cV Qa 0xC (aB 0>=>aB 1>=>aE>=>aD)) 0x1 0x2) (aI (@aO _ _ 5 _ _ _ _ fh.nd rfl 0x0 (aS T.cV Qa 0xC (aB 0>=>(aX bL<$>aB 1<*>aE)>=>aE>=>aD)) 0x1 0x2) (aI (@aO _ _ 6 _ _ _ _ fh.nd rfl 0x0 (aS T.cV Qa 0xC (aB 0>=>(aX bL<$>aB 1<*>aE)>=>aE>=>aD)) 0x1 0x2) (fX (al (fJ (aB 3)) (aI (@aO _ _ 4 _ _ _ _ fh.nd rfl (Or.inr rfl) (aS T.cV Qa 0xC (aB 0>=>aB 1>=>aE>=>aD)) 0x1 0x2) (@aL _ _ _ (@aO _ _ 5 _ _ _ _ fh.nd rfl 0x0 aE 0x1 0x2))) (@aL _ _ _ (al (aq bq (aS T.cV Qa 0xC (aB 0>=>(aX bL<$>aB 1<*>aE)>=>aE>=>aD)) aE (ac _)) (aI (@aO _ _ 4 _ _ _ _ fh.nd rfl (Or.inr rfl) (aS T.cV Qa 0xC (aB 0>=>aB 1>=>aE>=>aD)) 0x1 0x2) (aI (@aO _ _ 5 _ _ _ _ fh.nd rfl 0x0 (aS T.cV Qa 0xC (aB 0>=>(aX bL<$>aB 1<*>aE)>=>aE>=>aD)) 0x1 0x2) (@aL _ _ _ (@aO _ _ 6 _ _ _ _ fh.nd rfl 0x0 (aS T.cV Qa 0xC (aB 0>=>(aX bL<$>aB 1<*>aE)>=>aE>=>aD)) 0x1 0x2)))) ax))) (aI (mB (i:=7) fh.nd rfl 0x0 (N':=["_law_j","_law_base","_law_cell_here","_law_params"]) (js:=[none,some 2,some 0,some 4]) (by kernel_rfl) rfl (cW rfl T.b_range (aB 5>=>aD)) dJ (λ_ _ _ _=>(aW (i:=0) (show(["_law_j","_law_base","_law_cell_here","_law_params"]:List Str).Nodup by decide +kernel) rfl 0x0 (.inr rfl))) (λ_ _ _ _=>cm) (λ_ _ _ _=>(aw (ak>=>(aS T.j5 Qc 0xC (aB 1>=>(aX bL<$>aB 3<*>aB 0)>=>aD))>=>(aZ c9<$>aB 2<*>(aZ pO<$>aE<*>aE))>=>aD))) 0x1) (aI (@aO _ _ 7 _ _ _ _ fh.nd rfl 0x0 (lg<$>(lg<$>aB 7<*>(sJ<$>(bD ((aw (ak>=>aE>=>aD))>=>(aw (ak>=>aD))>=>(aw (ak>=>aD))>=>aD))<*>aB 6))<*>(bD ((aw (ak>=>aE>=>aD))>=>aD))) 0x1 0x2) (aI (@aO _ _ 8 _ _ _ _ fh.nd rfl 0x0 (eO jr 0x1 T.b_tuple ip ((eJ (N':=["_law_j","_law_base"]) (js:=[none,some 2]) (by kernel_rfl) rfl (cW rfl T.b_range (aB 4>=>aD)) dJ (λ_ _ _ _=>(aW (i:=0) (show(["_law_j","_law_base"]:List Str).Nodup by decide +kernel) rfl 0x0 (.inr rfl))) (λ_ _ _ _=>cm) (λ_ _ _ _=>(aS T.j5 Qc 0xC (aB 1>=>aB 0>=>aD))))>=>aD)) 0x1 0x2) (~~~(bD ((aw ((aS T.j5 Qc 0xC (aB 2>=>(aX bL<$>aB 1<*>aE)>=>aD))>=>(gg bq (aZ c9<$>aB 1<*>aE) aE (ac _))>=>aB 8>=>(eO jr 0x1 T.b_tuple ip (aB 7>=>aD))>=>aD))>=>(aX bL<$>aB 4<*>aB 5)>=>aD)))))))))),?_];show#[21,c,k,(4),rfl,k0,#[],λH1 s1=>?_];show#[339,c,k+3,(4),rfl,∅,#[],λH2 s2=>?_];show#[339,c,k+5,(3),rfl,∅,#[],λH3 s3=>?_];have z0:=(s1\s2).trans s3;have nat:∀(j m:Int),0<m->∃n:Nat,bM c j m=n/\(n:Int)<m:=λj m hm=>by have h:=fM c j m hm;let#[n,e]:=JT h.1;show#[n,e,∅]
   refine(let Jv3:St->Hp->Prop:=λσ G=>∃(p m n:Nat),σ=[⇑(.int c),⇑(.int k),⇑(.int b),⇑(.bl big),⇑(.int p),⇑(.int m),⇑(.int n),none,none]/\Same H G/\p<=6/\m<=18/\n<=12/\(big=true->p+m<=1); #[Jv3,?_,?_])
   . let#[n3,e3,b3]:=nat (k+5) 3 #[];show#[21,eP (λhb=>?_) (λhb=>?_)]
     . let#[p,ep,bp]:=nat k 2 #[];show#[21,c,k,(2),rfl,k0,#[],λH4 s4=>#[p,(0),n3,?_,z0\s4,∅,∅,∅,λ_=>by lia]];rw[ep,e3];rfl
     . show#[339,c,k+1,(8),rfl,∅,#[],λH4 s4=>#[13,eP (λh8=>?_) (λh8=>?_)]]
       . let#[p,ep,bp]:=nat k 7 #[];let#[m,em,bm]:=nat (k+3) 19 #[];let#[n,en,bn]:=nat (k+5) 13 #[];show#[21,c,k,(7),rfl,k0,#[],λH5 s5=>#[339,c,k+3,(19),rfl,∅,#[],λH6 s6=>#[339,c,k+5,(13),rfl,∅,#[],λH7 s7=>#[p,m,n,?_,(((z0\s4).trans s5).trans s6).trans s7,∅,∅,∅,λh=>absurd h hb]]]];rw[ep,em,en];rfl
       . let#[p,ep,bp]:=nat k 4 #[];let#[m,em,bm]:=nat (k+3) 4 #[];show#[p,m,n3,?_,z0\s4,∅,∅,∅,λh=>absurd h hb];rw[ep,em,e3];rfl
   rintro σ G0 ⟨p,m,n,rfl,sG0,p6,m18,n12,hbig⟩;show#[21,∅,∅,λu hu=>(let Jv1:Nat->List V->Hp->Prop:=λi acc H2=>Same G0 H2/\H2 u=⇑(.lst acc)/\∃rr:List K41.RR,acc=(rr.map λx=>V.ref x.w.r)/\rr.map (λx=>x.w.k)=List.replicate i ("copy":Str)/\((rr.map (·.d)).flatMap K12.rowStrs=(List.range i).map λj:Nat=>aj b ((p:Int)+(j:Int)))/\∀x∈rr,iE K (ers u H2) x; gG (lo:=0) (n:=m) ∅ Jv1 #[Same.new hu,aF,[],15,λx hx=>by cases hx] ?_ ?_ ?_)]
   . rintro i acc H2 hi ⟨s2',e2',rr,rfl,kk,_,_⟩;show#[e2',?_];have:=Jj List.length kk;rw[J7,KP] at this;rw[J7,this];exact JG _
   . rintro i acc H2 hi ⟨s2',e2',rr,rfl,kk,dd,hrr⟩;show#[1363,b,(p:Int)+(0+(i:Int)),rfl,λH4 s4=>?_];show#[83,#[#[],#[],#[]],19,rJ,kZ,λcA hcA=>?_];have e4:=s4 _ _ e2';have nc:cA≠u:=(aY e4 hcA).symm;have yc:=Same.new (o:=.tup [V.str "copy",V.str (aj b ((p:Int)+(0+(i:Int)))),V.int (c%2 ^ (48:Int).toNat)]) hcA;have nm1:=jg b ((p:Int)+(0+(i:Int)));show#[yc _ _ e4,((s2'\s4).trans yc).upd hu,aF,rr++[Bg.rcopyV cA (aj b ((p:Int)+(0+(i:Int)))) (c%2 ^ (48:Int).toNat)],(by rw[JB]; rfl),(by rw[JB,kk,List.replicate_succ']; rfl),(by rw[JB,K6,dd,Jy,JB,Ji]; rfl),λx hx=>?_];rw[dH];rcases JZ.mp hx with h|h
     . exact(hrr x h).mono (s4\yc).ers
     . cases JK.mp h;have hT:aJ K (ers u (upd H4 cA (.tup [V.str "copy",V.str (aj b ((p:Int)+(0+(i:Int)))),V.int (c%2 ^ (48:Int).toNat)]))) cA [V.str "copy",V.str (aj b ((p:Int)+(0+(i:Int)))),V.int (c%2 ^ (48:Int).toNat)]:=aJ.of (by rw[aU nc]; exact aF);show#[Bg.ok_copyV hT nm1,bN.up (n:=1) (bN.tup hT (.cons (.str 0xA) (.cons (.str nm1.2) (.cons .int .nil)))) #[]]
   rintro acc G2 ⟨s2',e2',rr,rfl,kk,dd,hrr⟩;have lrr:rr.length=m:=by have:=Jj List.length kk;rwa [J7,KP] at this
   show#[5,bI,λt1 ht1=>#[ci,λt2 ht2=>#[ci,λt3 ht3=>#[kZ,λL1 hL1=>#[5,L1,19,aF,∅,∅,bj (by show 3 * ((n:Int)).toNat<1000000; lia),λL2 hL2=>?_]]]]];rw[K3];have v1:=Same.new (o:=.tup [V.str "if",V.int 0]) ht1;have v2:=Same.new (o:=.tup [V.str "else"]) ht2;have v3:=Same.new (o:=.tup [V.str "end"]) ht3;have v4:=Same.new (o:=.lst [V.ref t1,V.ref t2,V.ref t3]) hL1;have v5:=Same.new (o:=.lst (List.replicate n [V.ref t1,V.ref t2,V.ref t3]).flatten) hL2;have o1:=v5 _ _ (v4 _ _ (v3 _ _ (v2 _ _ (aF (H:=G2) (a:=t1) (o:=.tup [V.str "if",V.int 0])))));have o2:=v5 _ _ (v4 _ _ (v3 _ _ (aF (H:=upd G2 t1 (.tup [V.str "if",V.int 0])) (a:=t2) (o:=.tup [V.str "else"]))));have o3:=v5 _ _ (v4 _ _ (aF (H:=upd (upd G2 t1 (.tup [V.str "if",V.int 0])) t2 (.tup [V.str "else"])) (a:=t3) (o:=.tup [V.str "end"])));have o5:=aF (H:=upd (upd (upd (upd G2 t1 (.tup [V.str "if",V.int 0])) t2 (.tup [V.str "else"])) t3 (.tup [V.str "end"])) L1 (.lst [V.ref t1,V.ref t2,V.ref t3])) (a:=L2) (o:=.lst (List.replicate n [V.ref t1,V.ref t2,V.ref t3]).flatten);have v15:=(((v1\v2).trans v3).trans v4).trans v5;generalize upd (upd (upd (upd (upd G2 t1 (.tup [V.str "if",V.int 0])) t2 (.tup [V.str "else"])) t3 (.tup [V.str "end"])) L1 (.lst [V.ref t1,V.ref t2,V.ref t3])) L2 (.lst (List.replicate n [V.ref t1,V.ref t2,V.ref t3]).flatten)=G3 at o1 o2 o3 o5 v15 ⊢;have l3:(List.replicate n [V.ref t1,V.ref t2,V.ref t3]).flatten.length=n * 3:=jz _ _;show#[u,L2,19,v15 _ _ e2',o5,bj (by rw[J7,l3,lrr]; lia),λL3 hL3=>#[bI,λt4 ht4=>#[ci,λL4 hL4=>?_]]];have w3:=Same.new (o:=.lst ((rr.map λx=>V.ref x.w.r)++(List.replicate n [V.ref t1,V.ref t2,V.ref t3]).flatten)) hL3;have w4:=Same.new (o:=.tup [V.str "back",V.int 0]) ht4;have w5:=Same.new (o:=.lst [V.ref t4]) hL4;show#[L3,L4,19,w5 _ _ (w4 _ _ aF),aF,bj (by rw[JE,J7,l3,lrr]; show m+n * 3+1<1000000; lia),λL5 hL5=>?_];have w6:=Same.new (o:=.lst ((rr.map λx=>V.ref x.w.r)++(List.replicate n [V.ref t1,V.ref t2,V.ref t3]).flatten++[V.ref t4])) hL5;have o4:=w6 _ _ (w5 _ _ (aF (H:=upd G3 L3 (.lst ((rr.map λx=>V.ref x.w.r)++(List.replicate n [V.ref t1,V.ref t2,V.ref t3]).flatten))) (a:=t4) (o:=.tup [V.str "back",V.int 0])));have o6:=aF (H:=upd (upd (upd G3 L3 (.lst ((rr.map λx=>V.ref x.w.r)++(List.replicate n [V.ref t1,V.ref t2,V.ref t3]).flatten))) t4 (.tup [V.str "back",V.int 0])) L4 (.lst [V.ref t4])) (a:=L5) (o:=.lst ((rr.map λx=>V.ref x.w.r)++(List.replicate n [V.ref t1,V.ref t2,V.ref t3]).flatten++[V.ref t4]));have w36:=((w3\w4).trans w5).trans w6;generalize upd (upd (upd (upd G3 L3 (.lst ((rr.map λx=>V.ref x.w.r)++(List.replicate n [V.ref t1,V.ref t2,V.ref t3]).flatten))) t4 (.tup [V.str "back",V.int 0])) L4 (.lst [V.ref t4])) L5 (.lst ((rr.map λx=>V.ref x.w.r)++(List.replicate n [V.ref t1,V.ref t2,V.ref t3]).flatten++[V.ref t4]))=G4 at o4 o6 w36 ⊢;have s24:=v15\w36;obtain⟨rF,eF,kF,lF,hF,dF⟩:∃rF:List K41.RR,(rr.map λx=>V.ref x.w.r)++(List.replicate n [V.ref t1,V.ref t2,V.ref t3]).flatten++[V.ref t4]=(rF.map λx=>V.ref x.w.r)/\rF.map (λx=>x.w.k)=List.replicate m ("copy":Str)++(List.replicate n [("if":Str),"else","end"]).flatten++[("back":Str)]/\rF.length<=100/\(∀x∈rF,iE K G4 x)/\(rF.map (·.d)).flatMap K12.rowStrs=(List.range m).map λj:Nat=>aj b ((p:Int)+(j:Int)):=by
     show#[rr++(List.replicate n [K41.rone "if" t1 (.int 0),K41.rnone "else" t2,K41.rnone "end" t3]).flatten++[K41.rone "back" t4 (.int 0)],?_,?_,?_,?_,?_]
     . rw[JB,JB,Lc,LM];rfl
     . rw[JB,JB,Lc,LM,kk];rfl
     . rw[JE,JE,jz,lrr];show m+n * 3+1<=100
       lia
     . intro x hx;have r1:aJ K G4 t1 [V.str "if",V.int 0]:=aJ.of (w36 _ _ o1);have r2:aJ K G4 t2 [V.str "else"]:=aJ.of (w36 _ _ o2);have r3:aJ K G4 t3 [V.str "end"]:=aJ.of (w36 _ _ o3);have r4:aJ K G4 t4 [V.str "back",V.int 0]:=aJ.of o4;rcases JZ.mp hx with hx|hx
       . rcases JZ.mp hx with hx|hx
         . exact(hrr x hx).mono (bT\s24)
         . let#[l,hl,hxl]:=LA.mp hx;rw[(LN.mp hl).2] at hxl;rcases JS.mp hxl with h|h
           . rw[h]; show#[K41.ok_if r1 (K41.at_i 0),bN.up (n:=1) (bN.tup r1 (.cons (.str 0xA) (.cons .int .nil))) #[]]
           . rcases JS.mp h with h|h
             . rw[h]; show#[K41.ok_else r2,bN.up (n:=1) (bN.tup r2 (.cons (.str 0xA) .nil)) #[]]
             . rw[JK.mp h]; show#[K41.ok_end r3,bN.up (n:=1) (bN.tup r3 (.cons (.str 0xA) .nil)) #[]]
       . rw[JK.mp hx]; show#[K41.ok_back r4 (K41.at_i 0),bN.up (n:=1) (bN.tup r4 (.cons (.str 0xA) (.cons .int .nil))) #[]]
     . rw[JB,JB,K6,K6,dd];have e1:(((List.replicate n [K41.rone "if" t1 (.int 0),K41.rnone "else" t2,K41.rnone "end" t3]).flatten).map (·.d)).flatMap K12.rowStrs=[]:=by
         rw[MJ];intro d hd;let#[x,hx,rfl]:=JW.mp hd;let#[l,hl,hxl]:=LA.mp hx;rw[(LN.mp hl).2] at hxl;rcases JS.mp hxl with h|h
         . rw[h]; rfl
         . rcases JS.mp h with h|h
           . rw[h]; rfl
           . rw[JK.mp h]; rfl
       rw[e1,Jq];exact Jq _
   rw[eF] at o6;have s04:=(sG0\s2').trans s24;show#[21,∅,∅,λnu hnu=>(let Jv2:Nat->List V->Hp->Prop:=λi acc H2=>Same G4 H2/\H2 nu=⇑(.lst acc)/\acc=((List.range i).map λj:Nat=>aj b j).map V.str; gG (lo:=0) (n:=p) ∅ Jv2 #[Same.new hnu,aF,rfl] ?_ ?_ ?_)]
   . rintro i acc H2 hi ⟨sN,eN,rfl⟩;show#[eN,by rw[J7,J7,JY]; exact JG _]
   . rintro i acc H2 hi ⟨sN,eN,rfl⟩;show#[21,b,0+(i:Int),rfl,λH4 s4=>#[s4 _ _ eN,(sN\s4).upd hnu,aF,?_]];rw[Jy,JB,JB,Ji];rfl
   rintro acc G5 ⟨sN,eN,rfl⟩;show#[nu,5,.inl #[aH.of eN,λq1 hq1=>?_]];have x1:=Same.new (o:=.tup (((List.range p).map λj:Nat=>aj b j).map V.str)) hq1;show#[339,b,k+3,rfl,λG6 s6=>?_];show#[83,(show(0:Int)<2 by decide),53,L5,5,.inl #[aH.of (s6 _ _ (x1 _ _ (sN _ _ o6))),λq2 hq2=>#[oU,λfa hfa=>?_]]];show#[339,bI,λe he=>?_];have y2:=Same.new (o:=.tup (rF.map λx=>V.ref x.w.r)) hq2;have y3:=Same.new (o:=.tup [V.str (aj b (k+3)),V.bl (decide (V.int (k%2)=V.int 1)),V.ref q1,V.ref q2]) hfa;have y4:=Same.new (o:=.lst [V.ref fa,V.int ((p:Int)+(m:Int))]) he;have s56:=x1\s6;have s46:=sN\s56;have p1:aJ K _ q1 (((List.range p).map λj:Nat=>aj b j).map V.str):=aJ.of (y4 _ _ (y3 _ _ (y2 _ _ (s6 _ _ (aF (H:=G5) (a:=q1) (o:=.tup (((List.range p).map λj:Nat=>aj b j).map V.str)))))));have p2:aJ K _ q2 (rF.map λx=>V.ref x.w.r):=aJ.of (y4 _ _ (y3 _ _ aF));have p3:aJ K _ fa [V.str (aj b (k+3)),V.bl (decide (V.int (k%2)=V.int 1)),V.ref q1,V.ref q2]:=aJ.of (y4 _ _ aF);have eE:=aF (H:=upd (upd G6 q2 (.tup (rF.map λx=>V.ref x.w.r))) fa (.tup [V.str (aj b (k+3)),V.bl (decide (V.int (k%2)=V.int 1)),V.ref q1,V.ref q2])) (a:=e) (o:=.lst [V.ref fa,V.int ((p:Int)+(m:Int))]);have s4e:=s46\((y2\y3).trans y4);have fr:=(s04\(s46\(y2\y3))).free he;have eE':upd (upd (upd G6 q2 (.tup (rF.map λx=>V.ref x.w.r))) fa (.tup [V.str (aj b (k+3)),V.bl (decide (V.int (k%2)=V.int 1)),V.ref q1,V.ref q2])) e (.lst [V.ref fa,V.int ((p:Int)+(m:Int))]) e=⇑(.lst [V.ref fa,V.int ((p+m:Nat):Int)]):=eE;have hps:∀s∈(List.range p).map λj:Nat=>aj b j,K12.Nm s:=λs hs=>by let#[j,_,rfl]:=JW.mp hs;exact jg b j
   have hrows:∀x∈rF,iE K (upd (upd (upd G6 q2 (.tup (rF.map λx=>V.ref x.w.r))) fa (.tup [V.str (aj b (k+3)),V.bl (decide (V.int (k%2)=V.int 1)),V.ref q1,V.ref q2])) e (.lst [V.ref fa,V.int ((p:Int)+(m:Int))])) x:=λx hx=>(hF x hx)*>s4e;have nk:=jg b (k+3);have rne:rF≠[]:=λz=>by have:=Jj List.length kF;rw[z,JE] at this;simp at this
   refine q #[#[aj b (k+3),V.bl (decide (V.int (k%2)=V.int 1)),fa,q1,q2,(List.range p).map λj:Nat=>aj b j,rF.map (·.w),rF.map (·.d)],p+m,e] _ (s04\s4e) fr #[aH.of eE',?_,?_,?_,by show p+m<=24; lia,nk.2,xo p2 λx hx=>(hrows x hx).1] rfl eE' ?_ hbig
   . refine Bg.fn_mk2 rF p3 p2 (λx hx=>(hrows x hx).1) p1 hps (by rw[J7,JY]; lia) lF ?_;rw[kF];exact sj m n
   . refine .cons .bl (.cons (bN.up (n:=1) (bN.tup (n:=0) p1 (cz.of λv hv=>?_)) #[]) (.cons (bN.tup (n:=3) p2 (cz.of λv hv=>?_)) .nil))
     . let#[s,hs,rfl]:=JW.mp hv;exact .str (hps s hs).2
     . let#[x,hx,rfl]:=JW.mp hv;exact(hrows x hx).2
   . exact λz=>rne (Ln.mp z)
   . show p+m=(K12.onceL (K12.allOf ((List.range p).map λj:Nat=>aj b j) (rF.map (·.d)))).length;unfold K12.allOf;rw[dF,vN,wu (xy ∅),J7,JY]
def li:FnScope ["_law_script","_law_big","_law_cell_here","_law_many"] ["_law_script","_law_big"] (ai pX):=by walk_at "s"
def Dx (T:Txt K mg t):FnOk P w K mg base CX0 4 t.zm t.Aa ["_law_script","_law_big"] (FJ K):=by
 have Qb:=og (P:=P) (w:=w) (base:=base) T;have Qa:=ir (P:=P) (w:=w) (base:=base) T;have QL:=EJ (P:=P) (w:=w) (base:=base) T;refine T.A'.F.ok li (λvs H Q E h=>?_) (λcdv A outer s H vs Q E hr h=>?_)
 . let#[_,_,_,rfl,_]:=h;rfl
 . let#[a,ns,big,rfl,hS,hl,q]:=h;show#[_,(aI (@aO _ _ 2 _ _ _ _ li.nd rfl (Or.inr rfl) (aS T.fN Qb 0xC (aB 0>=>aE>=>aD)) 0x1 0x2) (aI (@aO _ _ 3 _ _ _ _ li.nd rfl 0x0 (aX bL<$>aE<*>(aZ c9<$>aB 2<*>aE)) 0x1 0x2) (fX (al (aq bq (aS T.cV Qa 0xC (aB 2>=>aE>=>aE>=>aD)) aE (ac _)) (@aL _ _ _ (@aO _ _ 3 _ _ _ _ li.nd rfl 0x0 aE 0x1 0x2)) ax) (fX (al (fJ (aB 1)) (@aL _ _ _ (@aO _ _ 3 _ _ _ _ li.nd rfl 0x0 aE 0x1 0x2)) ax) (~~~(eJ (N':=["_law_k","_law_cell_here","_law_big","_law_script"]) (js:=[none,some 2,some 1,some 0]) (by kernel_rfl) rfl (cW rfl T.b_range (aB 3>=>aD)) dJ (λ_ _ _ _=>(aW (i:=0) (show(["_law_k","_law_cell_here","_law_big","_law_script"]:List Str).Nodup by decide +kernel) rfl 0x0 (.inr rfl))) (λ_ _ _ _=>cm) (λ_ _ _ _=>(aS T.Ax QL 0xC (aB 1>=>aB 0>=>(aS T.fN Qb 0xC (aB 3>=>aE>=>aD))>=>aB 2>=>aD))))))))),?_];show#[5,a,ns,(1),rfl,hS,hl,#[],#[],?_];generalize dG ns 1=z;have b3:=cG z 3 #[];show#[83,(show(0:Int)<3 by decide),19,?_];refine(let Jv2:St->Hp->Prop:=λσ G=>∃n:Nat,σ=[⇑↥a,⇑(.bl big),⇑(.int z),⇑(.int n)]/\Same H G/\1<=n/\n<=12; #[Jv2,?_,?_])
   . show#[5,z,(7),(8),rfl,#[],#[],λH1 s1=>#[13,eP (λ_=>#[(12),rfl,s1,#[],#[]]) (λ_=>?_)]];let#[n,en]:=JT (a:=1+z%3) ∅;show#[n,?_,s1,∅,∅];rw[<- en];rfl
   rintro σ G ⟨n,rfl,sG,n1,n12⟩;refine(let Jv3:St->Hp->Prop:=λσ G=>∃n:Nat,σ=[⇑↥a,⇑(.bl big),⇑(.int z),⇑(.int n)]/\Same H G/\1<=n/\n<=12; #[Jv3,?_,?_])
   . show#[21,eP (λ_=>#[(1),rfl,sG,#[],#[]]) (λ_=>#[n,rfl,sG,n1,n12])]
   rintro σ G1 ⟨n,rfl,sG1,n1,n12⟩;show#[21,∅,∅,λu hu=>(let Jv1:Nat->List V->Hp->Prop:=λi acc H2=>Same G1 H2/\H2 u=⇑(.lst acc)/\∃bs:List Bd,acc=(bs.map λx=>V.ref x.e)/\(∀x∈bs,EntAt K (ers u H2) x)/\bs.map (λx=>x.f.name)=((List.range i).map λj:Nat=>aj (dG ns 2) ((j:Int)+3))/\(∀x∈bs,x.cnt=(F2.nms x.f).length)/\(big=true->∀x∈bs,x.cnt<=1); gG (lo:=0) (n:=n) ∅ Jv1 #[Same.new hu,aF,[],rfl,(λx hx=>by cases hx),rfl,(λx hx=>by cases hx),λ_ x hx=>by cases hx] ?_ ?_ ?_)]
   . rintro i acc H2 hi ⟨s2,e2,bs,rfl,_,hb,_,_⟩;have:=Jj List.length hb;rw[J7,J7,JY] at this;show#[e2,by rw[J7,this]; exact JG _]
   . rintro i acc H2 hi ⟨s2,e2,bs,rfl,hall,hb,hcn,hbg⟩;show#[85,a,ns,(2),rfl,(sG1\s2).seq hS,hl,#[],#[],5,z,0+(i:Int),dG ns 2,big,rfl,∅,∅,λx H3 s3 f3 h3 n3 e3 c3 b3'=>?_];have ne:x.e≠u:=(aY e2 f3).symm;show#[s3 _ _ e2,(s2\s3).upd hu,aF,bs++[x],(by rw[JB]; rfl),λy hy=>?_,?_,λy hy=>?_,λhB y hy=>?_]
     . rw[dH];rcases JZ.mp hy with h|h
       . exact(hall y h).mono s3.ers
       . rw[JK.mp h];exact tU h3 (s3 _ _ e2) e3 ne
     . rw[JB,hb,Jy,JB];show _++[x.f.name]=_++[aj (dG ns 2) ((i:Int)+3)];rw[n3,Ji]
     . rcases JZ.mp hy with h|h
       . exact hcn y h
       . rw[JK.mp h]; exact c3
     . rcases JZ.mp hy with h|h
       . exact hbg hB y h
       . rw[JK.mp h]; exact b3' hB
   . rintro acc H2 ⟨s2,e2,bs,rfl,hall,hb,hcn,hbg⟩;have hlen:bs.length=n:=by have:=Jj List.length hb;rwa [J7,J7,JY] at this
     refine q u bs H2 (sG1\s2) #[#[aH.of e2,λx hx=>(hall x hx)*>bT,λh=>by rw[h] at hlen; simp at hlen; lia,∅,?_],hcn] hbg;rw[hb];exact wU n12
def lY:FnScope ["_law_cell_here","_law_many","_law_left","_law_sign","_law_one"] ["_law_cell_here","_law_many"] (ai nB):=by walk_at "s"
def ue (T:Txt K mg t):∀n,FnOk P w K mg base CX0 (n+2) t.qD t.qK ["_law_cell_here","_law_many"] (sL K n)
| 0=>T.mN.F.ok lY (λvs H Q E h=>by let#[c,m,rfl,hd,m0,q]:=h; exact absurd hd (Js _)) (λcdv A outer s H vs Q E hr h=>by let#[c,m,rfl,hd,m0,q]:=h; exact absurd hd (Js _))
| n+1=>by
 have Qk:FnOk P w K mg base CX0 (n+2) t.qD t.qK ["_law_cell_here","_law_many"] (sL K n):=ue T n;have Qa:=ir (P:=P) (w:=w) (base:=base) T;refine T.mN.F.ok lY (λvs H Q E h=>?_) (λcdv A outer s H vs Q E hr h=>?_)
 . let#[_,_,rfl,_]:=h;rfl
 . let#[c,m,rfl,hd,m0,q]:=h;show#[_,(aI (al (@PW.pt _ _ _ (gd (aq bq (aB 1) aE (ac _)) (gn (aq (aX im) (aZ c9<$>aB 0<*>aE) aE (ac _))))) (~~~(aw (ak>=>(aS T.cV Qa (hr.mono ∅) (aB 0>=>aE>=>aE>=>aD))>=>aD))) ax) (aI (al (aq bq (aB 1) aE (ac _)) (~~~(aw (ak>=>(aZ c9<$>(aZ gK<$>aB 0<*>aE)<*>(aZ pO<$>aE<*>aE))>=>aD))) ax) (aI (@aO _ _ 2 _ _ _ _ lY.nd rfl 0x0 (aX bL<$>aE<*>(aZ c9<$>aB 0<*>(aX fQ<$>aB 1<*>aE))) 0x1 0x2) (aI (@aO _ _ 3 _ _ _ _ lY.nd rfl 0x0 (aM kz ak (aS T.cV Qa (hr.mono ∅) (aB 0>=>aE>=>aE>=>aD)) 0x5) 0x1 0x2) (aI (@aO _ _ 4 _ _ _ _ lY.nd rfl 0x0 (aS T.mN Qk (hr.mono ∅) ((aZ c9<$>(aX bL<$>(aZ gK<$>aB 0<*>aE)<*>aE)<*>aE)>=>aB 2>=>aD)) 0x1 0x2) (~~~(aw (aB 3>=>aB 4>=>(aS T.mN Qk (hr.mono ∅) ((aZ c9<$>(aX bL<$>(aZ gK<$>aB 0<*>aE)<*>aE)<*>aE)>=>(aX fQ<$>aB 1<*>aB 2)>=>aD))>=>aD)))))))),?_];show#[45,?_];by_cases hm:m=1
   . subst hm;refine az (Jg rfl) #[83,(show(0:Int)<3 by decide),77,eP (λh3=>?_) (λh3=>?_)]
     . have b:=fM c 2 128 #[];let#[k,ek]:=JT b.1;show#[5,c,(2),(128),rfl,#[],#[],λH1 s1=>#[bI,λp hp=>q (.box k) _ _ (s1\(Same.new hp)) (cQ (aJ.of aF) (dQ _) (by rw[ek]; exact cx _)) (by show k<8 ^ 16; rw[ej]; lia) (by show k<=127; lia) rfl]]
     . have b:=cG (c * 94906267) 281474976710656 #[];let#[k,ek]:=JT b.1;show#[45,az (Jg rfl) #[83,.inr #[#[],#[]],19,#[#[],#[],#[]],19,rJ,bI,λp hp=>q (.num k) _ _ (Same.new hp) (cQ (aJ.of aF) (dQ _) ?_) (by show k<8 ^ 16; rw[ej]; lia) trivial rfl]];show DatV K _ (.int k) (V.int (c * 94906267%2 ^ (48:Int).toNat));rw[wj,ek];exact cx _
   have h1:¬ decide (V.int (m:Int)=V.int 1)=true:=λh=>hm (by have:=V.int.inj (dX h); lia);refine au h1 (gS #[45,au h1 ?_]);have lb:=cG c ((m:Int) - 1) ∅;let#[L,eL]:=JT (a:=1+c%((m:Int) - 1)) ∅;have L1:1<=L:=by lia
   have L2:L<m:=by lia
   show#[5427,(by show(0:Int)<(m:Int) - 1; lia),19,?_];have ib:=fM c 3 9 #[];let#[i,ei]:=JT ib.1;have i9:i<9:=by lia
   show#[5,c,(3),(9),rfl,#[],#[],λH1 s1=>#[4,pH.getD i 0,7,xY,(by rw[ei]; exact wO i i9),?_]];show#[83,.inr #[#[],#[]],307,(show(0:Int)<2147483647 by decide),10,L,(by show [V.int _,V.int (1+c%((m:Int) - 1))]=_; rw[eL]),∅,∅,λt1 v1 H2 s2 b1 o1 z1 l1=>?_];show#[1363,.inr #[#[],#[]],307,(show(0:Int)<2147483647 by decide),678,m - L,(by show [V.int _,V.int ((m:Int) - (1+c%((m:Int) - 1)))]=_; rw[eL]; show [_,V.int ((m:Int) - (L:Int))]=_; rw[show(m:Int) - (L:Int)=((m - L:Nat):Int) by lia]),∅,∅,λt2 v2 H3 s3 b2 o2 z2 l2=>?_];show#[kZ,λp hp=>q (.op i t1 t2) _ _ (((s1\s2).trans s3).trans (Same.new hp)) (gP (aJ.of aF) (ck (dQ _) (ck (DatV.mono (s3\(Same.new hp)) _ _ b1) (ck (DatV.mono (Same.new hp) _ _ b2) bK)))) #[i9,o1,o2] #[z1,z2] (by show lv t1+lv t2=m; lia)]
def xU:FnScope ["_law_cell_here","_law_most","_law_way"] ["_law_cell_here","_law_most"] (ai pQ):=by walk_at "s"
def Ib (T:Txt K mg t):FnOk P w K mg base CX0 13 t.zl t.AZ ["_law_cell_here","_law_most"] (Ez K):=by
 have Qa:=ir (P:=P) (w:=w) (base:=base) T;have Qk:FnOk P w K mg base CX0 12 t.qD t.qK ["_law_cell_here","_law_many"] (sL K 10):=ue T 10;refine T.Az.F.ok xU (λvs H Q E h=>?_) (λcdv A outer s H vs Q E hr h=>?_)
 . let#[_,_,rfl,_]:=h;rfl
 . let#[c,n,rfl,n1,n8,q]:=h;show#[_,(aI (@aO _ _ 2 _ _ _ _ xU.nd rfl 0x0 (aS T.cV Qa 0xC (aB 0>=>aE>=>aE>=>aD)) 0x1 0x2) (aI (al (aq (aX gz) (aB 2) aE (ac _)) (~~~jG) ax) (~~~(aS T.mN Qk 0xC (aB 0>=>(b6 (DG rfl) 0x1 T.b_min EF (aB 1>=>(aM 0x6 (bD (aE>=>aE>=>aE>=>aE>=>aE>=>(aX bL<$>aE<*>(aS T.cV Qa 0xC (aB 0>=>aE>=>aE>=>aD)))>=>aD)) (aX fQ<$>aB 2<*>aE) 0x5)>=>aD))>=>aD))))),?_];have b8:=fM c 0 8 #[];show#[5,c,(0),(8),rfl,#[],#[],λH1 s1=>#[333,?_]];by_cases h0:bM c 0 8<2
   . exact az (Jg h0) (q none _ _ s1 pK #[True.intro,True.intro])
   refine au (by rw[JL]; exact h0) ?_;have b1:=fM c 1 8 #[];obtain⟨y,hy,y1,y8⟩:∃y:Nat,bo ([1,1,1,1,2,1+bM c 1 8].map V.int) (bM c 0 8 - 2)=⇑(V.int y)/\1<=y/\y<=8:=by
     let#[w,ew]:=JT (a:=1+bM c 1 8) ∅;have:bM c 0 8 - 2=0\/bM c 0 8 - 2=1\/bM c 0 8 - 2=2\/bM c 0 8 - 2=3\/bM c 0 8 - 2=4\/bM c 0 8 - 2=5:=by lia
     rcases this with h|h|h|h|h|h
     . show#[(1),by rw[h]; rfl,#[],#[]]
     . show#[(1),by rw[h]; rfl,#[],#[]]
     . show#[(1),by rw[h]; rfl,#[],#[]]
     . show#[(1),by rw[h]; rfl,#[],#[]]
     . show#[(2),by rw[h]; rfl,#[],#[]]
     . show#[w,by rw[h,ew]; rfl,∅,∅]
   show#[85,c,(1),(8),rfl,#[],#[],λH2 s2=>#[19,(by show 6<=sizeLine; exact le6),λl hl=>?_]];show#[83,l,35,aH.of aF,hy,9,?_];rw[show(if(y:Int)<(n:Int) then(y:Int) else(n:Int))=((min n y:Nat):Int) by split <;> lia];show#[c,min n y,rfl,∅,∅,λtr v H3 s3 b3 o3 z3 l3=>q ⇑tr v H3 ((s1\s2).trans ((Same.new hl)\s3)) b3 #[#[o3,∅],z3]]
def lZ:FnScope ["_law_cell_here","_law_built","_law_last","_law_chain_here","_law_level","_law_k"] ["_law_cell_here","_law_built","_law_last"] (ai pM):=by walk_at "s"
def Eg (T:Txt K mg t):FnOk P w K mg base CX0 2 t.zd t.AR ["_law_cell_here","_law_built","_law_last"] (CY K):=by
 have Qa:=ir (P:=P) (w:=w) (base:=base) T;refine T.As.F.ok lZ (λvs H Q E h=>?_) (λcdv A outer s H vs Q E hr h=>?_)
 . let#[_,_,_,_,_,rfl,_]:=h;rfl
 . let#[c,b,bs,v,la,rfl,hB,hla,lok,l3,q]:=h;show#[_,(aI (@aO _ _ 3 _ _ _ _ lZ.nd rfl 0x0 (bD aD) 0x1 0x2) (aI (cK PassesOwn.never rfl (cW rfl T.b_range ((aX bL<$>aE<*>(aS T.cV Qa 0xC (aB 0>=>aE>=>aE>=>aD)))>=>aD)) (aW (i:=4) lZ.nd rfl 0x0) (aI (@aO _ _ 5 _ _ _ _ lZ.nd rfl 0x0 (aS T.cV Qa 0xC (aB 0>=>(aX bL<$>aE<*>aB 4)>=>(b6 0x3 0x1 T.b_len bR (aB 1>=>aD))>=>aD)) 0x1 0x2) (aI (al (@PW.pt _ _ _ (gd (aq (aX gz) (aB 4) (b6 0x3 0x1 T.b_len bR (aB 2>=>aD)) (ac _)) (gn (aq (aX im) (aS T.cV Qa 0xC (aB 0>=>aE>=>aE>=>aD)) aE (ac _))))) (@aL _ _ _ (@aO _ _ 5 _ _ _ _ lZ.nd rfl 0x0 (aM 0x4 (aM 0x6 (aB 2) (aB 4) 0x5) aE 0x5) 0x1 0x2)) ax) (@aL _ _ _ (@cF _ _ _ _ (bu JN JQ JR cf (aB 3) ((aw (aB 5>=>(aS T.cV Qa 0xC (aB 0>=>(aX bL<$>aE<*>aB 4)>=>(b6 0x3 0x1 T.b_len bR ((aM 0x4 (aM 0x6 (aM 0x6 (aB 1) (aB 5) 0x5) aE 0x5) aE 0x5)>=>aD))>=>aD))>=>aD))>=>aD)) 0x1))))) (~~~(aB 3)))),?_];let#[lA,ls,rfl,hls,dls]:=cX hla;have lls:ls.length=la.length:=by rw[bS dls,J7]
   have b3:=fM c 0 3 #[];have n12:=hB.bt.n12;have n0':=hB.bt.n0;have rlk:∀(k:Nat) x,bs[k]?=⇑x->(bh bs).getD k 0=x.f.rs.length:=λk x h=>by unfold bh b9; rw[Jm,JH,JC,h]; rfl
   have n0:0<bs.length:=K7.mpr n0';have lb:((bs.map λx=>V.ref x.e).length:Int)=(bs.length:Int):=by rw[J7]
   show#[c8,λl hl=>?_];show#[5,c,(0),(3),rfl,#[],#[],λH1 s1=>#[77,∅,∅,?_]];have e1:=s1 _ _ (aF (H:=H) (a:=l) (o:=.lst []));have s01:=(Same.new (o:=.lst []) hl)\s1;refine(let Jv1:Nat->St->Hp->Prop:=λi σ H2=>∃v4 v5:JM V,σ=[⇑(.int c),⇑↥b,⇑↥lA,⇑↥l,v4,v5]/\Same H H2/\∃(xs:List V) (ch:List (Nat×Nat)),H2 l=⇑(.lst xs)/\DatAll K (ers l H2) (ch.map ii) xs/\ch.length=i/\∀d∈ch,d.1<bs.length/\d.2<(bh bs).getD d.1 0; fO (lo:=0) (n:=(1+bM c 0 3).toNat) Jv1 #[9,s01,[],[],e1,bK,rfl,λd hd=>by cases hd] ?_ ?_)
   . rintro i σ H2 hi ⟨v4,v5,rfl,s2,xs,ch,e2,d2,lch,hok⟩;have lxs:xs.length=i:=by rw[bS d2,J7,lch]
     have i3:i<3:=by lia
     show#[1357,b,5,.inl (s2.seq hB.bt.ls),c,1+(0+(i:Int)),5,∅,(by rw[lb]; lia),λH3 s3=>?_];rw[lb];have pk:=fM c (1+(0+(i:Int))) (bs.length:Int) ∅;let#[k,ek]:=JT pk.1;have kl:k<bs.length:=by lia
     rw[ek];show#[21,lA,5,.inl ((s2\s3).seq hls),77,?_];by_cases hi2:i<la.length
     case neg =>
       refine au (by walk_at "l") (gS ?_);obtain⟨x,hx⟩:∃x,bs[k]?=⇑x:=#[_,JA kl]
       have hX:=hB.bt.all x (J9 hx);have rl:0<x.f.rs.length:=K7.mpr hX.ne;have r100:=hX.fn.len;have ll:((x.f.rs.map λw=>V.ref w.r).length:Int)=(x.f.rs.length:Int):=by rw[J7]
       show#[5,.inl #[6,aH.of (s3 _ _ e2)],21813,b,35,(s2\s3).seq hB.bt.ls,bY (by rw[JC,hx]; rfl),x.e,35,(s2\s3).seq hX.en,bH,x.f.fa,35,(s2\s3)<*hX.fn.fn,rfl,x.f.ra,5,.inr ((s2\s3)<*hX.fn.rw_),c,5+(0+(i:Int)),5,∅,(by rw[ll]; lia),λH5 s5=>#[bI,λp hp=>?_]];rw[ll];have pb:=fM c (5+(0+(i:Int))) (x.f.rs.length:Int) ∅;let#[r,er]:=JT pb.1;rw[er];have e5:=s5 _ _ (s3 _ _ e2);have yp:=Same.new (o:=.tup [.int ((k:Nat):Int),.int (r:Int)]) hp;have np:p≠l:=(aY e5 hp).symm;show#[l,19,yp _ _ e5,bj (n:=xs.length+1) ∅,9,(((s2\s3).trans s5).trans yp).upd hl,_,ch++[(k,r)],aF,?_,by rw[JE,lch]; rfl,λd hd=>?_]
       . rw[dH,JB];refine dZ (DatAll.mono (Same.ers ((s3\s5).trans yp)) _ _ d2) (cQ (aJ.of (by rw[aU np]; exact aF)) (cx _) (cx _))
       . rcases JZ.mp hd with h|h
         . exact hok d h
         . rw[JK.mp h];show#[kl,by show r<(bh bs).getD k 0; rw[rlk k x hx]; lia]
     refine az (by walk_at "l") #[5,c,(4),(3),rfl,#[],#[],λH4 s4=>#[77,eP (λhp=>?_) (λhp=>?_)]]
     . obtain⟨d,hd⟩:∃d,la[i]?=⇑d:=#[_,JA hi2]
       let#[y,hy,dy]:=eK dls hd;let#[fA,y1,y2,rfl,hf,hy1,hy2]:=dE dy;cases g6 hy1;have kd:=lok d (J9 hd);have s34:=s3\s4;show#[21,lA,35,(s2\s34).seq hls,(by rw[Ji]; exact bY hy),fA,35,(s2\s34)<*hf,bH,?_];obtain⟨x,hx⟩:∃x,bs[d.1]?=⇑x:=#[_,JA kd]
       have hX:=hB.bt.all x (J9 hx);have rl:0<x.f.rs.length:=K7.mpr hX.ne;have r100:=hX.fn.len;have ll:((x.f.rs.map λw=>V.ref w.r).length:Int)=(x.f.rs.length:Int):=by rw[J7]
       show#[5,.inl #[6,aH.of (s34 _ _ e2)],21813,b,35,(s2\s34).seq hB.bt.ls,bY (by rw[JC,hx]; rfl),x.e,35,(s2\s34).seq hX.en,bH,x.f.fa,35,(s2\s34)<*hX.fn.fn,rfl,x.f.ra,5,.inr ((s2\s34)<*hX.fn.rw_),c,5+(0+(i:Int)),5,∅,(by rw[ll]; lia),λH5 s5=>#[bI,λp hp=>?_]];rw[ll];have pb:=fM c (5+(0+(i:Int))) (x.f.rs.length:Int) ∅;let#[r,er]:=JT pb.1;rw[er];have e5:=s5 _ _ (s34 _ _ e2);have yp:=Same.new (o:=.tup [.int ((d.1:Nat):Int),.int (r:Int)]) hp;have np:p≠l:=(aY e5 hp).symm;show#[l,19,yp _ _ e5,bj (n:=xs.length+1) ∅,9,(((s2\s34).trans s5).trans yp).upd hl,_,ch++[(d.1,r)],aF,?_,by rw[JE,lch]; rfl,λd hd=>?_]
       . rw[dH,JB];refine dZ (DatAll.mono (Same.ers ((s34\s5).trans yp)) _ _ d2) (cQ (aJ.of (by rw[aU np]; exact aF)) (cx _) (cx _))
       . rcases JZ.mp hd with h|h
         . exact hok d h
         . rw[JK.mp h];show#[kd,by show r<List.getD _ _ _; rw[rlk _ x hx]; lia]
     . have s34:=s3\s4;obtain⟨x,hx⟩:∃x,bs[k]?=⇑x:=#[_,JA kl]
       have hX:=hB.bt.all x (J9 hx);have rl:0<x.f.rs.length:=K7.mpr hX.ne;have r100:=hX.fn.len;have ll:((x.f.rs.map λw=>V.ref w.r).length:Int)=(x.f.rs.length:Int):=by rw[J7]
       show#[5,.inl #[6,aH.of (s34 _ _ e2)],21813,b,35,(s2\s34).seq hB.bt.ls,bY (by rw[JC,hx]; rfl),x.e,35,(s2\s34).seq hX.en,bH,x.f.fa,35,(s2\s34)<*hX.fn.fn,rfl,x.f.ra,5,.inr ((s2\s34)<*hX.fn.rw_),c,5+(0+(i:Int)),5,∅,(by rw[ll]; lia),λH5 s5=>#[bI,λp hp=>?_]];rw[ll];have pb:=fM c (5+(0+(i:Int))) (x.f.rs.length:Int) ∅;let#[r,er]:=JT pb.1;rw[er];have e5:=s5 _ _ (s34 _ _ e2);have yp:=Same.new (o:=.tup [.int ((k:Nat):Int),.int (r:Int)]) hp;have np:p≠l:=(aY e5 hp).symm;show#[l,19,yp _ _ e5,bj (n:=xs.length+1) ∅,9,(((s2\s34).trans s5).trans yp).upd hl,_,ch++[(k,r)],aF,?_,by rw[JE,lch]; rfl,λd hd=>?_]
       . rw[dH,JB];refine dZ (DatAll.mono (Same.ers ((s34\s5).trans yp)) _ _ d2) (cQ (aJ.of (by rw[aU np]; exact aF)) (cx _) (cx _))
       . rcases JZ.mp hd with h|h
         . exact hok d h
         . rw[JK.mp h];show#[kl,by show r<(bh bs).getD k 0; rw[rlk k x hx]; lia]
   . rintro σ H2 ⟨v4,v5,rfl,s2,xs,ch,e2,d2,lch,hok⟩;show#[5,q ch l xs H2 s2 hl e2 d2 ∅ ∅ hok]
def fD:FnScope ["_law_script","_law_at","_law_built","_law_many","_law_marks_here","_law_last","_law_j","_law_cell_here","_law_chain_here","_law_views","_law_level","_law_k","_law_ahead","_law_places","_law_i","_law_seed"] ["_law_script","_law_at","_law_built","_law_many"] (ai oO):=by walk_at "s"
def EV (T:Txt K mg t):FnOk P w K mg base CX0 14 t.zi t.AW ["_law_script","_law_at","_law_built","_law_many"] (Ft K):=by
 have Qb:=og (P:=P) (w:=w) (base:=base) T;have QM:=Eg (P:=P) (w:=w) (base:=base) T;have QN:=Ib (P:=P) (w:=w) (base:=base) T;have Qa:=ir (P:=P) (w:=w) (base:=base) T;refine T.Ay.F.ok fD (λvs H Q E h=>?_) (λcdv A outer s H vs Q E hr h=>?_)
 . let#[_,_,_,_,_,_,rfl,_]:=h;rfl
 . let#[a,ns,k,b,bs,n,rfl,hS,hl,k0,k1,hB,n1,n200,q]:=h;show#[_,(aI (@aO _ _ 4 _ _ _ _ fD.nd rfl 0x0 (bD aD) 0x1 0x2) (aI (@aO _ _ 5 _ _ _ _ fD.nd rfl 0x0 (aw (bD aD>=>bD aD>=>aD)) 0x1 0x2) (aI (cK PassesOwn.never rfl (cW rfl T.b_range (aB 3>=>aD)) (aW (i:=6) fD.nd rfl 0x0) (aI (@aO _ _ 7 _ _ _ _ fD.nd rfl 0x0 (aS T.fN Qb 0xC (aB 0>=>(aX bL<$>aB 1<*>aB 6)>=>aD)) 0x1 0x2) (aI (@aO _ _ 8 _ _ _ _ fD.nd rfl 0x0 (aS T.As QM 0xC (aB 7>=>aB 2>=>(aM 0x4 (aB 5) aE 0x5)>=>aD)) 0x1 0x2) (aI (@aO _ _ 9 _ _ _ _ fD.nd rfl 0x0 (bD aD) 0x1 0x2) (aI (cK PassesOwn.never rfl (cW rfl T.b_range ((b6 0x3 0x1 T.b_len bR (aB 8>=>aD))>=>aD)) (aW (i:=10) fD.nd rfl 0x0) (aI (@aO _ _ 11 _ _ _ _ fD.nd rfl 0x0 (aM 0x4 (aM 0x6 (aB 8) (aB 10) 0x5) aE 0x5) 0x1 0x2) (aI (@aO _ _ 12 _ _ _ _ fD.nd rfl 0x0 (bD aD) 0x1 0x2) (fX (al (@PW.pt _ _ _ (gd (aq (aX gz) (aB 10) (b6 0x3 0x1 T.b_len bR ((aM 0x4 (aB 5) aE 0x5)>=>aD)) (ac _)) (gn (aq bq (aM 0x4 (aM 0x6 (aM 0x4 (aB 5) aE 0x5) (aB 10) 0x5) aE 0x5) (aB 11) (ac _))))) (@aL _ _ _ (@aO _ _ 12 _ _ _ _ fD.nd rfl 0x0 (aM 0x6 (aM 0x4 (aB 5) aE 0x5) (aB 10) 0x5) 0x1 0x2)) ax) (aI (@aO _ _ 13 _ _ _ _ fD.nd rfl 0x0 (bD aD) 0x1 0x2) (aI (cK PassesOwn.never rfl (cW rfl T.b_range ((aM 0x6 (aM 0x6 (aB 2) (aB 11) 0x5) aE 0x5)>=>aD)) (aW (i:=14) fD.nd rfl 0x0) (aI (@aO _ _ 15 _ _ _ _ fD.nd rfl 0x0 (aX bL<$>(aX bL<$>aB 7<*>(aZ gK<$>aE<*>aB 14))<*>(aZ gK<$>aE<*>aB 10)) 0x1 0x2) (aI (@cF _ _ _ _ (bu JN JQ JR cf (aB 13) ((aS T.Az QN 0xC (aB 15>=>(aM 0x6 (bD (aE>=>aE>=>aD)) (eO DT 0x1 T.b_int lB ((gg (aX im) (aB 3) aE (ac _))>=>aD)) 0x5)>=>aD))>=>aD)) 0x1) (@aL _ _ _ (al (@PW.pt _ _ _ (gd (aq (i4 hr.units) (aB 12) (bD aD) (ac _)) (gn (aq bq (aS T.cV Qa 0xC (aB 15>=>aE>=>aE>=>aD)) aE (ac _))))) (@aL _ _ _ (i5 (aM 0x6 (aB 12) (aB 14) 0x5) (kC (aB 13) (iD iW aE) ka))) ax))))) (@aL _ _ _ (@cF _ _ _ _ (bu JN JQ JR cf (aB 9) (aB 13>=>aD)) 0x1)))))))) (aI (@aO _ _ 5 _ _ _ _ fD.nd rfl 0x0 (aw (aB 8>=>aB 9>=>aD)) 0x1 0x2) (@aL _ _ _ (@cF _ _ _ _ (bu JN JQ JR cf (aB 4) (aB 5>=>aD)) 0x1)))))))) (~~~(aB 4))))),?_];have ok:=j' hB;have lrl:(bh bs).length=bs.length:=by unfold bh b9; rw[J7,J7]
   show#[c8,λl hl0=>#[c8,λc0 hc0=>#[c8,λw0 hw0=>#[bI,λp0 hp0=>?_]]]];have g1:=Same.new (o:=.lst []) hl0;have g2:=Same.new (o:=.lst []) hc0;have g3:=Same.new (o:=.lst []) hw0;have g4:=Same.new (o:=.tup [V.ref c0,V.ref w0]) hp0;have el:upd (upd (upd (upd H l (.lst [])) c0 (.lst [])) w0 (.lst [])) p0 (.tup [V.ref c0,V.ref w0]) l=⇑(.lst []):=g4 _ _ (g3 _ _ (g2 _ _ aF));have hd0:DatV K (upd (upd (upd (upd H l (.lst [])) c0 (.lst [])) w0 (.lst [])) p0 (.tup [V.ref c0,V.ref w0])) (fU cY) ↥p0:=cQ (aJ.of aF) (bO (aH.of (g4 _ _ (g3 _ _ aF))) bK) (bO (aH.of (g4 _ _ aF)) bK);have g14:=((g1\g2).trans g3).trans g4;generalize upd (upd (upd (upd H l (.lst [])) c0 (.lst [])) w0 (.lst [])) p0 (.tup [V.ref c0,V.ref w0])=G0 at el hd0 g14 ⊢;show#[21,∅,∅,?_];refine(let Jv1:Nat->St->Hp->Prop:=λi σ H2=>∃(lv:V) (v6 v7 v8 v9 v10 v11 v12 v13 v14 v15:JM V),σ=[⇑↥a,⇑(.int k),⇑↥b,⇑(.int n),⇑↥l,⇑lv,v6,v7,v8,v9,v10,v11,v12,v13,v14,v15]/\Same H H2/\∃(us:List V) (ms:List Mk) (lm:Mk),H2 l=⇑(.lst us)/\DatAll K (ers l (nwL H H2)) (ms.map fU) us/\ms.length=i/\(∀m∈ms,MFit (bh bs) (dW bs) m)/\DatV K H2 (fU lm) lv/\MG (bh bs) (dW bs) lm; fO (lo:=0) (n:=n) Jv1 #[_,none,none,none,none,none,none,none,none,none,none,rfl,g14,[],[],cY,el,bK,rfl,(λm hm=>by cases hm),hd0,mg0 _ _] ?_ ?_)
   . rintro i σ H2 hi ⟨lv,v6,v7,v8,v9,v10,v11,v12,v13,v14,v15,rfl,s2,us,ms,lm,e2,d2,lms,hms,dlv,okl⟩;have lus:us.length=i:=by rw[bS d2,J7,lms]
     let#[lA,cv,wv,rfl,hlA,hcv,hwv]:=dE dlv;let#[cA,cs,rfl,hcs,dcs]:=cX hcv;let#[wA,ws,rfl,hws,dws]:=cX hwv;have lcs:cs.length=lm.ch.length:=by rw[bS dcs,J7]
     show#[1363,a,ns,k+(0+(i:Int)),rfl,s2.seq hS,hl,∅,∅,?_];generalize dG ns (k+(0+(i:Int)))=z;show#[85,lA,35,hlA,bH,z,b,bs,↥cA,lm.ch,rfl,hB*>s2,hcv,(λc hc=>by have:=(okl.ix c hc).1; lia),okl.l3,λch cl xs H3 s3 hcl e3 d3 ch1 ch3 chok=>?_];have lxs:xs.length=ch.length:=by rw[bS d3,J7]
     show#[c8,λvl hvl=>?_];have x1:=Same.new (o:=.lst []) hvl;have s24:=s3\x1;have fvl:=s3.free hvl;show#[5,cl,5,.inl (aH.of (x1 _ _ e3)),5,∅,∅,?_];refine(let Jv2:Nat->St->Hp->Prop:=λj σ H5=>∃(v10 v11 v12 v13 v14 v15:JM V),σ=[⇑↥a,⇑(.int k),⇑↥b,⇑(.int n),⇑↥l,⇑↥lA,⇑(.int (0+(i:Int))),⇑(.int z),⇑↥cl,⇑↥vl,v10,v11,v12,v13,v14,v15]/\Same H3 H5/\∃(vs:List V) (vw:List (List (JM BTr))),H5 vl=⇑(.lst vs)/\DatAll K (ers vl (nwL H2 H5)) (vw.map d7) vs/\vw.length=j/\(∀(m:Nat) c v,ch[m]?=⇑c->vw[m]?=⇑v->v.length=dW bs c.1)/\∀v∈vw,∀o∈v,cp o; fO (lo:=0) (n:=xs.length) Jv2 #[129,x1,[],[],aF,bK,rfl,(λm c v _ h=>by cases h),λv hv=>by cases hv] ?_ ?_)
     . rintro j σ H5 hj ⟨v10,v11,v12,v13,v14,v15,rfl,s5,vs,vw,e5,d5,lvw,cvw,okv⟩;have s25:=s3\s5;have lvs:vs.length=j:=by rw[bS d5,J7,lvw]
       obtain⟨d,hd⟩:∃d,ch[j]?=⇑d:=#[_,JA ∅]
       let#[y,hy,dy]:=eK (DatAll.mono (bT\s5) _ _ d3) hd;let#[fA,y1,y2,rfl,hf,hy1,hy2]:=dE dy;cases g6 hy1;have dk:=(chok d (J9 hd)).1;obtain⟨x,hx⟩:∃x,bs[d.1]?=⇑x:=#[_,JA dk]
       have hX:=hB.bt.all x (J9 hx);have cnx:dW bs d.1=x.cnt:=(lX (by rw[JC,hx]; rfl))\(hB.cn x (J9 hx)).symm;show#[21,cl,35,aH.of (s5 _ _ e3),(by rw[Ji]; exact bY hy),fA,35,hf,bH,?_];show#[c8,λaA haA=>?_];have x6:=Same.new (o:=.lst []) haA;refine(let Jv4:St->Hp->Prop:=λσ G=>∃(av:V) (v13 v14 v15:JM V) (ah:List (JM BTr)),σ=[⇑↥a,⇑(.int k),⇑↥b,⇑(.int n),⇑↥l,⇑↥lA,⇑(.int (0+(i:Int))),⇑(.int z),⇑↥cl,⇑↥vl,⇑(.int (0+(j:Int))),⇑(.int ((d.1:Nat):Int)),⇑av,v13,v14,v15]/\Same H5 G/\DatV K G (d7 ah) av/\(∀o∈ah,cp o)/\(ah=[]\/ah.length=x.cnt); #[Jv4,?_,?_])
       . have hE:DatV K (upd H5 aA (.lst [])) (d7 []) ↥aA:=bO (aH.of aF) bK;have t6:=s25\x6;show#[21,lA,35,t6<*hlA,bH,cA,5,.inl (t6.seq hcs),77,?_];by_cases hj2:j<lm.ch.length
         case neg=>exact au (by walk_at "l") (gS #[16,[],rfl,x6,hE,(λo h=>by cases h),.inl rfl])
         obtain⟨d0,hd0⟩:∃d0,lm.ch[j]?=⇑d0:=#[_,JA hj2]
         obtain⟨v0,hv0⟩:∃v0,lm.vs[j]?=⇑v0:=#[_,JA (by rw[okl.vl]; exact hj2)]
         let#[u0,hu0,du0]:=eK dcs hd0;let#[f0,u1,u2,rfl,hf0,hu1,hu2]:=dE du0;cases g6 hu1;let#[w1,hw1,dw1]:=eK dws hv0;refine az (by walk_at "l") #[5,lA,35,t6<*hlA,bH,5,cA,35,t6.seq hcs,(by rw[Ji]; exact bY hu0),f0,35,t6<*hf0,bH,45,?_];by_cases hk:d0.1=d.1
         . refine az (Jg (by rw[hk])) #[5,lA,35,t6<*hlA,13,wA,35,t6.seq hws,(by rw[Ji]; exact bY hw1),w1,8,v0,rfl,x6,DatV.mono t6 _ _ dw1,okl.ok v0 (J9 hv0),.inr ?_];rw[okl.cn j d0 v0 hd0 hv0,hk,cnx]
         . exact au (λh=>hk (by have:=V.int.inj (dX h); lia)) #[16,[],rfl,x6,hE,(λo h=>by cases h),.inl rfl]
       rintro σ G ⟨av,v13,v14,v15,ah,rfl,sG,dav,okah,lah⟩;let#[aA',ys,rfl,hys,dys]:=cX dav;show#[c8,λpA hpA=>?_];have xp:=Same.new (o:=.lst []) hpA;have sB:=s25\sG;have b24:=hX.cn;show#[21,b,35,((s2\sB).trans xp).seq hB.bt.ls,bY (by rw[JC,hx]; rfl),x.e,35,((s2\sB).trans xp).seq hX.en,13,∅,∅,?_];refine(let Jv3:Nat->St->Hp->Prop:=λm σ H8=>∃(v14 v15:JM V),σ=[⇑↥a,⇑(.int k),⇑↥b,⇑(.int n),⇑↥l,⇑↥lA,⇑(.int (0+(i:Int))),⇑(.int z),⇑↥cl,⇑↥vl,⇑(.int (0+(j:Int))),⇑(.int ((d.1:Nat):Int)),⇑↥aA',⇑↥pA,v14,v15]/\Same G H8/\∃(ps:List V) (pl:List (JM BTr)),H8 pA=⇑(.lst ps)/\DatAll K (tl H8) (pl.map bE) ps/\pl.length=m/\∀o∈pl,cp o; fO (lo:=0) (n:=x.cnt) Jv3 #[9,xp,[],[],aF,bK,rfl,λo h=>by cases h] ?_ ?_)
       . rintro m σ H8 hm ⟨v14,v15,rfl,s8,ps,pl,e8,d8,lpl,okp⟩;have lps:ps.length=m:=by rw[bS d8,J7,lpl]
         show#[339,.inl #[#[],#[]],1235,.inl #[#[],#[]],19,?_];show#[5,.inl #[6,aH.of e8],5,bI,λt8 ht8=>?_];have x8:=Same.new (o:=.lst [V.int 8,V.int 2]) ht8;obtain⟨mo,hmo,mo1,mo8⟩:∃mo:Nat,bo [V.int 8,V.int 2] (if decide ((n:Int) > 20)=true then 1 else 0)=⇑(V.int mo)/\1<=mo/\mo<=8:=by
           by_cases hq:(n:Int) > 20
           . show#[(2),by rw[JJ (Jg hq)]; rfl,#[],#[]]
           . show#[(8),by rw[JI (by rw[JL]; exact hq)]; rfl,#[],#[]]
         show#[83,?_];refine .inr #[5,?_];show#[t8,35,aH.of aF,hmo,?_];show#[_,mo,rfl,mo1,mo8,λo v H9 s9 d9 ok9=>?_];have s89:=x8\s9;have e9:=s89 _ _ e8;show#[pA,19,e9,bj (n:=ps.length+1) ∅,?_];have sA:=(s8\s89).upd (o:=.lst (ps++[v])) hpA;have eA:=aF (H:=H9) (a:=pA) (o:=.lst (ps++[v]));have dA0:DatAll K (tl (upd H9 pA (.lst (ps++[v])))) (pl.map bE) ps:=DatAll.mono ((gy s89)\(fb e9)) _ _ d8;have dv:DatV K (tl (upd H9 pA (.lst (ps++[v])))) (bE o) v:=DatV.mono (fb e9) _ _ (Ua.DatV.tl _ _ (pU o) d9);have dA:DatAll K (tl (upd H9 pA (.lst (ps++[v])))) ((pl++[o]).map bE) (ps++[v]):=by rw[JB]; exact dZ dA0 dv
         have okA:∀o'∈pl++[o],cp o':=λo' h=>by
           rcases JZ.mp h with h|h
           . exact okp o' h
           . rw[JK.mp h]; exact ok9
         generalize upd H9 pA (.lst (ps++[v]))=HA at sA eA dA dA0 ⊢;show#[5,c8,λeN heN=>?_];have xN:=Same.new (o:=.lst []) heN;show#[4,DatV.mono (sA\xN) _ _ dav,bO (aH.of aF) bK,(mY λo h=>(okah o h).1).shaped #[],(ag.list (n:=0) (λd h=>by cases h)).shaped #[],5,?_];rw[show PyData.eqv (d7 ah) (.list [])=(ah.map bE).isEmpty from mQ _];have keep:∀H':Hp,Same HA H'->Same G H'/\∃(ps':List V) (pl':List (JM BTr)),H' pA=⇑(.lst ps')/\DatAll K (tl H') (pl'.map bE) ps'/\pl'.length=m+1/\∀o∈pl',cp o:=λH' s'=>#[sA\s',4,s' _ _ eA,L2.DatAll.mono (gy s') _ _ dA,by rw[JE,lpl]; rfl,okA]
         cases hah:ah with
         | nil=>exact au 0xB (gS #[9,keep _ xN])
         | cons a0 ar =>
           have hne:ah≠[]:=by rw[hah]; exact La _ _
           have lh:ah.length=x.cnt:=lah.resolve_left hne;refine az rfl #[10,(7),(2),rfl,#[],#[],λHB sB'=>#[13,eP (λ_=>?_) (λ_=>#[9,keep _ (xN\sB')])]];obtain⟨oa,hoa⟩:∃oa,ah[m]?=⇑oa:=#[_,JA ∅]
           let#[ya,hya,dya]:=eK dys hoa;have sN:=xN\sB';have eB:=sN _ _ eA;show#[21,aA',35,(sA\sN).seq hys,(by rw[Ji]; exact bY hya),21,pA,35,eB,(by rw[JE]; exact DB _),9,?_];rw[BN];show#[(sA\sN).upd hpA,_,pl++[oa],aF,?_,by rw[JE,lpl]; rfl,λo' h=>?_]
           . rw[JB];exact dZ (L2.DatAll.mono ((gy sN)\(fb eB)) _ _ dA0) (L2.DatV.mono (fb eB) _ _ (Ua.DatV.tl _ _ (pU oa) (L2.DatV.mono (sA\sN) _ _ dya)))
           . rcases JZ.mp h with h|h
             . exact okp o' h
             . rw[JK.mp h]; exact okah oa (J9 hoa)
       . rintro σ H8 ⟨v14,v15,rfl,s8,ps,pl,e8,d8,lpl,okp⟩;have sV:=sG\s8;have eV:=sV _ _ e5;have nP2:pA≠vl:=(aY (sG _ _ e5) hpA).symm;have fpA:H2 pA=none:=sB.free hpA;show#[5,.inl #[6,aH.of eV],5,vl,19,eV,bj (n:=vs.length+1) ∅,129,(s5\sV).upd hvl,_,vw++[pl],aF,?_,by rw[JE,lvw]; rfl,?_,?_]
         . rw[lD,JB];refine dZ (L2.DatAll.mono (Same.ers (Same.nwL sV)) _ _ d5) (bO (aH.of (by rw[aU nP2,eI fpA]; exact e8)) (L2.DatAll.mono (wD (s25\sV) eV) _ _ d8))
         . intro m' c v hc hv;rcases mC hv with⟨_,hv⟩|⟨hm',rfl⟩
           . exact cvw m' c v hc hv
           . have:m'=j:=by lia
             subst this;rw[hd] at hc;cases hc;rw[lpl,cnx]
         . intro v hv;rcases JZ.mp hv with h|h
           . exact okv v h
           . rw[JK.mp h]; exact okp
     . rintro σ H5 ⟨v10,v11,v12,v13,v14,v15,rfl,s5,vs,vw,e5,d5,lvw,cvw,okv⟩;have s25:=s3\s5;have e5l:=s25 _ _ e2;show#[21,bI,λpT hpT=>?_];have xT:=Same.new (o:=.tup [V.ref cl,V.ref vl]) hpT;have eT:=xT _ _ e5l;have fpT:H2 pT=none:=s25.free hpT;have s2T:=s25\xT;have okN:MG (bh bs) (dW bs) ⟨ch,vw⟩:=#[ch3,λc hc=>by rw[lrl]; exact chok c hc,by show vw.length=ch.length; lia,cvw,okv]
       have dN:DatV K (nwL H2 (upd H5 pT (.tup [V.ref cl,V.ref vl]))) (fU ⟨ch,vw⟩) ↥pT:=by refine cQ (aJ.of (by rw[eI fpT]; exact aF)) (bO (aH.of (by rw[eI hcl]; exact xT _ _ (s5 _ _ e3))) ?_) (bO (aH.of (by rw[eI fvl]; exact xT _ _ e5)) (L2.DatAll.mono (bT\(Same.nwL xT)) _ _ d5));exact DatAll.nwT s2T _ _ (iu rK _) (L2.DatAll.mono (bT\(s5\xT)) _ _ d3)
       show#[5,.inl #[6,aH.of eT],5,l,19,eT,bj (n:=us.length+1) ∅,4097,(s2\s2T).upd hl0,_,ms++[#[ch,vw]],#[ch,vw],aF,?_,by rw[JE,lms]; rfl,λm hm=>?_,L2.DatV.mono (Fx e2) _ _ dN,okN]
       . rw[lD,JB];exact dZ (L2.DatAll.mono (Same.ers (Same.nwL s2T)) _ _ d2) (L2.DatV.mono (qY s2 e2) _ _ dN)
       . rcases JZ.mp hm with h|h
         . exact hms m h
         . rw[JK.mp h]; exact okN.fit ch1
   . rintro σ H2 ⟨lv,v6,v7,v8,v9,v10,v11,v12,v13,v14,v15,rfl,s2,us,ms,lm,e2,d2,lms,hms,_⟩;show#[5,q ms _ H2 s2 (bO (aH.of (by rw[eI hl0]; exact e2)) (L2.DatAll.mono bT _ _ d2)) lms #[∅,∅,hms]]
def jV:FnScope ["_law_script","_law_built","_law_big","_law_found","_law_k","_law_many"] ["_law_script","_law_built","_law_big"] (ai nP):=by walk_at "s"
def Gf (T:Txt K mg t):FnOk P w K mg base CX0 15 t.za t.AN ["_law_script","_law_built","_law_big"] (HP K):=by
 have Qa:=ir (P:=P) (w:=w) (base:=base) T;have QO:=EV (P:=P) (w:=w) (base:=base) T;have Qb:=og (P:=P) (w:=w) (base:=base) T;refine T.Aq.F.ok jV (λvs H Q E h=>?_) (λcdv A outer s H vs Q E hr h=>?_)
 . let#[_,_,_,_,_,rfl,_]:=h;rfl
 . let#[a,ns,b,bs,big,rfl,hS,hl,hB,q]:=h;show#[_,(aI (@aO _ _ 3 _ _ _ _ jV.nd rfl 0x0 (bD aD) 0x1 0x2) (aI (cK PassesOwn.never rfl (cW rfl T.b_range ((b6 0x3 0x1 T.b_len bR (aB 1>=>aD))>=>aD)) (aW (i:=4) jV.nd rfl 0x0) (aI (@aO _ _ 5 _ _ _ _ jV.nd rfl 0x0 (aX bL<$>aE<*>(aS T.cV Qa 0xC ((aS T.fN Qb 0xC (aB 0>=>aE>=>aD))>=>aB 4>=>aE>=>aD))) 0x1 0x2) (fX (al (fJ (aB 2)) (@aL _ _ _ (@aO _ _ 5 _ _ _ _ jV.nd rfl 0x0 (aX bL<$>aE<*>(aS T.cV Qa 0xC ((aS T.fN Qb 0xC (aB 0>=>aE>=>aD))>=>aE>=>aE>=>aD))) 0x1 0x2)) ax) (fX (al (aq bq (b6 0x3 0x1 T.b_len bR (aB 1>=>aD)) aE (ac _)) (@aL _ _ _ (@aO _ _ 5 _ _ _ _ jV.nd rfl 0x0 aE 0x1 0x2)) ax) (fX (al (@PW.pt _ _ _ (gd (aq bq (b6 0x3 0x1 T.b_len bR (aB 1>=>aD)) aE (ac _)) (gd (kU (fJ (aB 2))) (gn (aq bq (aS T.cV Qa 0xC ((aS T.fN Qb 0xC (aB 0>=>aE>=>aD))>=>aE>=>aE>=>aD)) aE (ac _)))))) (@aL _ _ _ (@aO _ _ 5 _ _ _ _ jV.nd rfl 0x0 (aX bL<$>aE<*>(aS T.cV Qa 0xC ((aS T.fN Qb 0xC (aB 0>=>aE>=>aD))>=>aE>=>aE>=>aD))) 0x1 0x2)) ax) (@aL _ _ _ (@cF _ _ _ _ (bu JN JQ JR cf (aB 3) ((aS T.Ay QO 0xC (aB 0>=>(aX bL<$>aE<*>(aZ gK<$>aE<*>aB 4))>=>aB 1>=>aB 5>=>aD))>=>aD)) 0x1))))))) (~~~(aB 3)))),?_];have n12:=hB.bt.n12;have lb:(bs.map λx=>V.ref x.e).length=bs.length:=J7 _;have nat:∀(k j m:Int),0<m->∃n:Nat,k+bM (dG ns 0) j m=k+n/\(n:Int)<m:=λk j m hm=>by have h:=fM (dG ns 0) j m hm;let#[n,e]:=JT h.1;show#[n,by rw[e],∅]
   show#[c8,λl hl0=>?_];show#[5,b,5,.inl ((Same.new hl0).seq hB.bt.ls),5,∅,∅,?_];refine(let Jv1:Nat->St->Hp->Prop:=λi σ H2=>∃v4 v5:JM V,σ=[⇑↥a,⇑↥b,⇑(.bl big),⇑↥l,v4,v5]/\Same H H2/\∃(us:List V) (aT:List (List Mk)),H2 l=⇑(.lst us)/\DatAll K (ers l H2) (aT.map jc) us/\aT.length=i/\∀ms∈aT,gD bs ms/\(big=false->ms.length<=16); fO (lo:=0) (n:=List.length (List.map (λx:Bd=>V.ref x.e) bs)) Jv1 #[9,Same.new hl0,[],[],aF,bK,rfl,λms h=>by cases h] ?_ ?_)
   . rintro i σ H2 hi ⟨v4,v5,rfl,s2,us,aT,e2,d2,lm,hok⟩;have lus:us.length=i:=by rw[bS d2,J7,lm]
     show#[5,a,ns,(0),rfl,s2.seq hS,hl,#[],#[],5,dG ns 0,0+(i:Int),(3),rfl,∅,#[],λH3 s3=>#[19,?_]];refine(let Jv2:St->Hp->Prop:=λσ G=>∃n:Nat,σ=[⇑↥a,⇑↥b,⇑(.bl big),⇑↥l,⇑(.int (0+(i:Int))),⇑(.int n)]/\Same H2 G/\1<=n/\n<=200/\(big=false->n<=16); #[Jv2,?_,?_])
     . show#[21,eP (λhb=>?_) (λhb=>?_)]
       . let#[n,en,bn]:=nat 1 6 200 #[];show#[5,a,ns,(0),rfl,(s2\s3).seq hS,hl,#[],#[],dG ns 0,(6),(200),rfl,#[],#[],λH4 s4=>#[19,1+n,?_,s3\s4,∅,∅,λq=>by rw[q] at hb; cases hb]];rw[en];rfl
       . let#[n,en,bn]:=nat 1 (0+(i:Int)) 3 #[];show#[1+n,?_,s3,∅,∅,λ_=>by lia];rw[en];rfl
     rintro σ G1 ⟨n,rfl,sG1,n1,n2,n3⟩;refine(let Jv3:St->Hp->Prop:=λσ G=>∃n:Nat,σ=[⇑↥a,⇑↥b,⇑(.bl big),⇑↥l,⇑(.int (0+(i:Int))),⇑(.int n)]/\Same H2 G/\1<=n/\n<=200/\(big=false->n<=16); #[Jv3,?_,?_])
     . show#[5,b,5,.inl ((s2\sG1).seq hB.bt.ls),13,eP (λ_=>#[(1),rfl,sG1,#[],#[],λ_=>by decide]) (λ_=>#[n,rfl,sG1,n1,n2,n3])]
     rintro σ G2 ⟨n,rfl,sG2,n1,n2,n3⟩;refine(let Jv4:St->Hp->Prop:=λσ G=>∃n:Nat,σ=[⇑↥a,⇑↥b,⇑(.bl big),⇑↥l,⇑(.int (0+(i:Int))),⇑(.int n)]/\Same H2 G/\1<=n/\n<=200/\(big=false->n<=16); #[Jv4,?_,?_])
     . show#[5,b,5,.inl ((s2\sG2).seq hB.bt.ls),13,eP (λ_=>?_) (λ_=>gS #[n,rfl,sG2,n1,n2,n3])];show#[21,eP (λ_=>?_) (λ_=>gS #[n,rfl,sG2,n1,n2,n3])];show#[5,a,ns,(0),rfl,(s2\sG2).seq hS,hl,#[],#[],dG ns 0,(5),(2),rfl,#[],#[],λH4 s4=>#[13,eP (λ_=>?_) (λ_=>#[n,rfl,sG2\s4,n1,n2,n3])]];let#[n',en,bn]:=nat 4 4 6 #[];show#[5,a,ns,(0),rfl,((s2\sG2).trans s4).seq hS,hl,#[],#[],dG ns 0,(4),(6),rfl,#[],#[],λH5 s5=>#[19,4+n',?_,(sG2\s4).trans s5,∅,∅,λ_=>by lia]];rw[en];rfl
     rintro σ G3 ⟨n,rfl,sG3,n1,n2,n3⟩;have e3:=sG3 _ _ e2;have s03:=s2\sG3;show#[5,.inl #[6,aH.of e3],339,.inl #[#[],#[]],309,a,ns,4+5 * (0+(i:Int)),b,bs,n,rfl,s03.seq hS,hl,∅,∅,hB*>s03,n1,n2,λms v H4 s4 d4 lms oks=>?_];have e4:=s4 _ _ e3;show#[l,19,e4,bj (n:=us.length+1) ∅,9,(s03\s4).upd hl0,us++[v],aT++[ms],aF,?_,by rw[JE,lm]; rfl,λm hm=>?_]
     . rw[dH,JB];exact dZ (L2.DatAll.mono (Same.ers (sG3\s4)) _ _ d2) (L2.DatV.mono (xI e3) _ _ d4)
     . rcases JZ.mp hm with h|h
       . exact hok m h
       . rw[JK.mp h];show#[oks,λq=>by rw[lms]; exact n3 q]
   . rintro σ H2 ⟨v4,v5,rfl,s2,us,aT,e2,d2,lm,hok⟩;rw[lb] at lm;show#[5,q aT _ H2 s2 (bO (aH.of e2) (L2.DatAll.mono bT _ _ d2)) lm hok]
def ig:FnScope ["_law_number","_law_many","_law_left","_law_sign","_law_one","_law_other"] ["_law_number","_law_many"] (ai pJ):=by walk_at "s"
def yu (T:Txt K mg t):∀n,FnOk P w K mg base CX0 (n+1) t.qB t.qJ ["_law_number","_law_many"] (rC K n)
| 0=>T.mM.F.ok ig (λvs H Q E h=>by let#[c,m,rfl,hd,m0,m8,q]:=h; exact absurd hd (Js _)) (λcdv A outer s H vs Q E hr h=>by let#[c,m,rfl,hd,m0,m8,q]:=h; exact absurd hd (Js _))
| n+1=>by
 have Ql:FnOk P w K mg base CX0 (n+1) t.qB t.qJ ["_law_number","_law_many"] (rC K n):=yu T n;refine T.mM.F.ok ig (λvs H Q E h=>?_) (λcdv A outer s H vs Q E hr h=>?_)
 . let#[_,_,rfl,_]:=h;rfl
 . let#[c,m,rfl,hd,m0,m8,q]:=h;show#[_,(aI (al (@PW.pt _ _ _ (gd (aq bq (aB 1) aE (ac _)) (gn (aq bq (aZ c9<$>aB 0<*>aE) aE (ac _))))) (~~~(aw ((aw (ak>=>(aZ c9<$>(aZ jP<$>aB 0<*>aE)<*>aE)>=>aD))>=>(aZ jP<$>aB 0<*>aE)>=>aD))) ax) (aI (al (aq bq (aB 1) aE (ac _)) (~~~(aw ((aw (ak>=>(aZ c9<$>(aZ jP<$>aB 0<*>aE)<*>(aZ pO<$>aE<*>aE))>=>aD))>=>(aZ jP<$>aB 0<*>(aZ pO<$>aE<*>aE))>=>aD))) ax) (aI (@aO _ _ 2 _ _ _ _ ig.nd rfl 0x0 (aX bL<$>aE<*>(aZ c9<$>aB 0<*>(aX fQ<$>aB 1<*>aE))) 0x1 0x2) (aI (@aO _ _ 3 _ _ _ _ ig.nd rfl 0x0 (aM kz ak (aZ c9<$>(aZ jP<$>aB 0<*>(aX fQ<$>aB 1<*>aE))<*>aE) 0x5) 0x1 0x2) (aI (i5 (aS T.mM Ql (hr.mono ∅) ((aZ jP<$>(aZ jP<$>aB 0<*>(aX fQ<$>aB 1<*>aE))<*>aE)>=>aB 2>=>aD)) (dC rfl (bP (aW (i:=4) ig.nd rfl 0x0) (bP (aW (i:=0) ig.nd rfl 0x0) dB)))) (aI (i5 (aS T.mM Ql (hr.mono ∅) (aB 0>=>(aX fQ<$>aB 1<*>aB 2)>=>aD)) (dC rfl (bP (aW (i:=5) ig.nd rfl 0x0) (bP (aW (i:=0) ig.nd rfl 0x0) dB)))) (~~~(aw ((aw (aB 3>=>aB 4>=>aB 5>=>aD))>=>aB 0>=>aD))))))))),?_];show#[45,?_];by_cases hm:m=1
   . subst hm;refine az (Jg rfl) #[83,(show(0:Int)<2 by decide),13,eP (λh3=>?_) (λh3=>?_)]
     . have b:=cG (c / 2) 128 #[];let#[k,ek]:=JT b.1;show#[83,#[#[],#[]],19,(show(0:Int)<128 by decide),bI,λp1 hp1=>#[83,#[#[],#[]],bI,λp hp=>?_]];have y1:=Same.new (o:=.tup [V.str "box",V.int (c / 2%128)]) hp1;have y2:=Same.new (o:=.tup [V.ref p1,V.int (c / 256)]) hp;exact q p (.box k) ↥p1 (c / 256) _ (y1\y2) (aJ.of aF) (cQ (aJ.of (y2 _ _ aF)) (dQ _) (by rw[ek]; exact cx _)) (by show k<8 ^ 16; rw[ej]; lia) (by show k<=127; lia) rfl
     . have b:=cG (c / 2) 281474976710656 #[];let#[k,ek]:=JT b.1;show#[45,az (Jg rfl) #[83,#[#[],#[]],19,#[#[],#[],#[]],19,rJ,bI,λp1 hp1=>#[83,#[#[],#[],#[]],19,#[by decide +kernel,by decide +kernel],bI,λp hp=>?_]]];have y1:=Same.new (o:=.tup [V.str "num",V.int (c / 2%2 ^ (48:Int).toNat)]) hp1;have y2:=Same.new (o:=.tup [V.ref p1,V.int (c / 2 ^ (49:Int).toNat)]) hp;exact q p (.num k) ↥p1 _ _ (y1\y2) (aJ.of aF) (cQ (aJ.of (y2 _ _ aF)) (dQ _) (by show DatV K _ (.int k) (V.int (c / 2%2 ^ (48:Int).toNat)); rw[wj,ek]; exact cx _)) (by show k<8 ^ 16; rw[ej]; lia) trivial rfl
   have h1:¬ decide (V.int (m:Int)=V.int 1)=true:=λh=>hm (by have:=V.int.inj (dX h); lia);refine au h1 (gS #[45,au h1 ?_]);have lb:=cG c ((m:Int) - 1) ∅;let#[L,eL]:=JT (a:=1+c%((m:Int) - 1)) ∅;have L1:1<=L:=by lia
   have L2:L<m:=by lia
   have cd:(0:Int)<(m:Int) - 1/\(m:Int) - 1<2 ^ 64:=by lia
   show#[5427,cd.1,19,?_];have ib:=cG (c / ((m:Int) - 1)) 9 #[];let#[i,ei]:=JT ib.1;have i9:i<9:=by lia
   show#[5427,cd,19,(show(0:Int)<9 by decide),4,pH.getD i 0,7,xY,(by rw[ei]; exact wO i i9),?_];show#[5427,cd,19,#[#[],#[]],10,L,(by show [V.int _,V.int (1+c%((m:Int) - 1))]=_; rw[eL]),∅,∅,∅,λp1 t1 v1 c1 H2 s2 q1 b1 o1 z1 l1=>?_];show#[p1,5,q1,403,?_];show#[2726,m - L,(by show [V.int _,V.int ((m:Int) - (1+c%((m:Int) - 1)))]=_; rw[eL]; show [_,V.int ((m:Int) - (L:Int))]=_; rw[show(m:Int) - (L:Int)=((m - L:Nat):Int) by lia]),∅,∅,∅,λp2 t2 v2 c2 H3 s3 q2 b2 o2 z2 l2=>?_];show#[p2,5,q2,403,?_];show#[85,kZ,λp3 hp3=>#[5,bI,λp hp=>?_]];have y1:=Same.new (o:=.tup [V.str (eQ i),v1,v2]) hp3;have y2:=Same.new (o:=.tup [V.ref p3,V.int c2]) hp;exact q p (.op i t1 t2) ↥p3 c2 _ ((s2\s3).trans (y1\y2)) (aJ.of aF) (gP (aJ.of (y2 _ _ aF)) (ck (dQ _) (ck (DatV.mono (s3\(y1\y2)) _ _ b1) (ck (DatV.mono (y1\y2) _ _ b2) bK)))) #[i9,o1,o2] #[z1,z2] (by show lv t1+lv t2=m; lia)
def cy:FnScope ["_law_number","_law_built","_law_last","_law_chain_here","_law_views","_law_many","_law_level","_law_k","_law_row","_law_count","_law_ahead","_law_places","_law_i","_law_way","_law_one"] ["_law_number","_law_built","_law_last"] (ai oI):=by walk_at "s"
def EG (T:Txt K mg t):FnOk P w K mg base CX0 13 t.zf t.AT ["_law_number","_law_built","_law_last"] (Hu K):=by
 have Ql:FnOk P w K mg base CX0 11 t.qB t.qJ ["_law_number","_law_many"] (rC K 10):=yu T 10;refine T.Av.F.ok cy (λvs H Q E h=>?_) (λcdv A outer s H vs Q E hr h=>?_)
 . let#[_,_,_,_,_,rfl,_]:=h;rfl
 . let#[c,b,bs,u,m0,rfl,hB,du,g0,q]:=h;show#[_,(aI (@aO _ _ 3 _ _ _ _ cy.nd rfl 0x0 (bD aD) 0x1 0x2) (aI (@aO _ _ 4 _ _ _ _ cy.nd rfl 0x0 (bD aD) 0x1 0x2) (aI (@aO _ _ 5 _ _ _ _ cy.nd rfl 0x0 (aX bL<$>aE<*>(aZ c9<$>aB 0<*>aE)) 0x1 0x2) (aI (@aO _ _ 0 _ _ _ _ cy.nd rfl 0x0 (aZ dh<$>aB 0<*>aE) 0x1 0x2) (aI (cK PassesOwn.never rfl (cW rfl T.b_range (aB 5>=>aD)) (aW (i:=6) cy.nd rfl 0x0) (aI (@aO _ _ 7 _ _ _ _ cy.nd rfl 0x0 (aZ c9<$>aB 0<*>(b6 0x3 0x1 T.b_len bR (aB 1>=>aD))) 0x1 0x2) (aI (@aO _ _ 8 _ _ _ _ cy.nd rfl 0x0 (aZ c9<$>(aZ dh<$>aB 0<*>(b6 0x3 0x1 T.b_len bR (aB 1>=>aD)))<*>(b6 0x3 0x1 T.b_len bR ((aM 0x4 (aM 0x6 (aM 0x6 (aB 1) (aB 7) 0x5) aE 0x5) aE 0x5)>=>aD))) 0x1 0x2) (aI (@aO _ _ 0 _ _ _ _ cy.nd rfl 0x0 (aZ dh<$>(aZ dh<$>aB 0<*>(b6 0x3 0x1 T.b_len bR (aB 1>=>aD)))<*>(b6 0x3 0x1 T.b_len bR ((aM 0x4 (aM 0x6 (aM 0x6 (aB 1) (aB 7) 0x5) aE 0x5) aE 0x5)>=>aD))) 0x1 0x2) (@aL _ _ _ (@cF _ _ _ _ (bu JN JQ JR cf (aB 3) ((aw (aB 7>=>aB 8>=>aD))>=>aD)) 0x1)))))) (aI (@aO _ _ 9 _ _ _ _ cy.nd rfl 0x0 aE 0x1 0x2) (aI (cK PassesOwn.never rfl (cW rfl T.b_range (aB 5>=>aD)) (aW (i:=6) cy.nd rfl 0x0) (aI (@aO _ _ 7 _ _ _ _ cy.nd rfl 0x0 (aM 0x4 (aM 0x6 (aB 3) (aB 6) 0x5) aE 0x5) 0x1 0x2) (aI (@aO _ _ 10 _ _ _ _ cy.nd rfl 0x0 (bD aD) 0x1 0x2) (fX (al (@PW.pt _ _ _ (gd (aq (aX gz) (aB 6) (b6 0x3 0x1 T.b_len bR ((aM 0x4 (aB 2) aE 0x5)>=>aD)) (ac _)) (gn (aq bq (aM 0x4 (aM 0x6 (aM 0x4 (aB 2) aE 0x5) (aB 6) 0x5) aE 0x5) (aB 7) (ac _))))) (@aL _ _ _ (@aO _ _ 10 _ _ _ _ cy.nd rfl 0x0 (aM 0x6 (aM 0x4 (aB 2) aE 0x5) (aB 6) 0x5) 0x1 0x2)) ax) (aI (@aO _ _ 11 _ _ _ _ cy.nd rfl 0x0 (bD aD) 0x1 0x2) (aI (cK PassesOwn.never rfl (cW rfl T.b_range ((aM 0x6 (aM 0x6 (aB 1) (aB 7) 0x5) aE 0x5)>=>aD)) (aW (i:=12) cy.nd rfl 0x0) (aI (@aO _ _ 13 _ _ _ _ cy.nd rfl 0x0 (aZ c9<$>aB 0<*>aE) 0x1 0x2) (aI (@aO _ _ 0 _ _ _ _ cy.nd rfl 0x0 (aZ dh<$>aB 0<*>aE) 0x1 0x2) (@aL _ _ _ (al (@PW.pt _ _ _ (gd (aq bq (aB 13) aE (ac _)) (gn (aq (i4 hr.units) (aB 10) (bD aD) (ac _))))) (@aL _ _ _ (@cF _ _ _ _ (bu JN JQ JR cf (aB 11) ((aM 0x6 (aB 10) (aB 12) 0x5)>=>aD)) 0x1)) (@aL _ _ _ (al (aq (aX im) (aB 13) aE (ac _)) (@aL _ _ _ (@cF _ _ _ _ (bu JN JQ JR cf (aB 11) (jG>=>aD)) 0x1)) (@aL _ _ _ (al (aq (aX im) (aB 9) aE (ac _)) (aI (@cF _ _ _ _ (bu JN JQ JR cf (aB 11) ((aM 0x6 (bD ((aw (ak>=>(aZ c9<$>aB 0<*>aE)>=>aD))>=>(aw (ak>=>(aZ c9<$>aB 0<*>aE)>=>aD))>=>aD)) (aZ c9<$>aB 13<*>aE) 0x5)>=>aD)) 0x1) (@aL _ _ _ (@aO _ _ 0 _ _ _ _ cy.nd rfl 0x0 (aZ dh<$>aB 0<*>aE) 0x1 0x2))) (aI (@aO _ _ 9 _ _ _ _ cy.nd rfl 0x0 (aX bL<$>aB 9<*>aE) 0x1 0x2) (aI (i5 (aS T.mM Ql 0xC (aB 0>=>(aX bL<$>aB 13<*>aE)>=>aD)) (dC rfl (bP (aW (i:=14) cy.nd rfl 0x0) (bP (aW (i:=0) cy.nd rfl 0x0) dB)))) (@aL _ _ _ (@cF _ _ _ _ (bu JN JQ JR cf (aB 11) (aB 14>=>aD)) 0x1))))))))))))) (@aL _ _ _ (@cF _ _ _ _ (bu JN JQ JR cf (aB 4) (aB 11>=>aD)) 0x1)))))))) (~~~(aw (aB 3>=>aB 4>=>aD)))))))))),?_];let#[lA,cv,wv,rfl,hlA,hcv,hwv]:=dE du;let#[cA,cs,rfl,hcs,dcs]:=cX hcv;let#[wA,ws,rfl,hws,dws]:=cX hwv;have lcs:cs.length=m0.ch.length:=by rw[bS dcs,J7]
   have ok:=j' hB;have lrl:(bh bs).length=bs.length:=by unfold bh b9; rw[J7,J7]
   have n12:=hB.bt.n12;have nb0:0<bs.length:=K7.mpr hB.bt.n0;have lb:((bs.map λx=>V.ref x.e).length:Int)=(bs.length:Int):=by rw[J7]
   have rlk:∀(k:Nat) x,bs[k]?=⇑x->(bh bs).getD k 0=x.f.rs.length:=λk x h=>by unfold bh b9; rw[Jm,JH,JC,h]; rfl
   show#[c8,λcl hcl=>#[c8,λvl hvl=>?_]];have fvl:H vl=none:=(Same.new hcl).free hvl;have g1:=Same.new (o:=.lst []) hcl;have g2:=Same.new (o:=.lst []) hvl;have ec1:upd (upd H cl (.lst [])) vl (.lst []) cl=⇑(.lst []):=g2 _ _ aF;have ev1:upd (upd H cl (.lst [])) vl (.lst []) vl=⇑(.lst []):=aF;have ncv:cl≠vl:=aY (show upd H cl (.lst []) cl=_ from aF) hvl;have g12:=g1\g2;generalize upd (upd H cl (.lst [])) vl (.lst [])=H1 at ec1 ev1 g12 ⊢;have b3:=cG c 3 #[];let#[n,en]:=JT (a:=1+c%3) ∅;show#[83,(show(0:Int)<3 by decide),19,?_];show#[83,#[#[],#[]],?_];rw[en];show#[21,∅,∅,?_];refine(let Jv1:Nat->St->Hp->Prop:=λj σ G=>∃(z:Int) (v6 v7 v8:JM V) (ch:List (Nat×Nat)) (us:List V),σ=[⇑(.int z),⇑↥b,⇑↥lA,⇑↥cl,⇑↥vl,⇑(.int n),v6,v7,v8,none,none,none,none,none,none]/\Same H G/\G cl=⇑(.lst us)/\G vl=⇑(.lst [])/\DatAll K (tl G) (ch.map ii) us/\ch.length=j/\∀c∈ch,c.1<bs.length/\c.2<(bh bs).getD c.1 0; fO (lo:=0) (n:=n) Jv1 #[16,[],[],rfl,g12,ec1,ev1,bK,rfl,λc hc=>by cases hc] ?_ ?_)
   . rintro j σ G hj ⟨z,v6,v7,v8,ch,us,rfl,sG,ec,ev,dch,lch,och⟩;have lus:us.length=j:=by rw[bS dch,J7,lch]
     have kb:=cG z (bs.length:Int) ∅;let#[k,ek]:=JT kb.1;obtain⟨x,hx⟩:∃x,bs[k]?=⇑x:=#[_,JA ∅]
     have hX:=hB.bt.all x (J9 hx);have r1:0<x.f.rs.length:=K7.mpr hX.ne;have r100:=hX.fn.len;have lr:((x.f.rs.map λw=>V.ref w.r).length:Int)=(x.f.rs.length:Int):=by rw[J7]
     have cb:lq z (bs.length:Int):=by unfold lq; lia
     show#[21,b,5,.inl (sG.seq hB.bt.ls),19,(by rw[lb]; lia),?_];rw[lb,ek];have hat:bo (bs.map λx=>V.ref x.e) ((k:Nat):Int)=⇑(V.ref x.e):=bY (by rw[JC,hx]; rfl);have rb:=cG (z / (bs.length:Int)) (x.f.rs.length:Int) ∅;let#[r,er]:=JT rb.1;show#[21,b,5,.inl (sG.seq hB.bt.ls),19,(by rw[lb]; exact cb),21,b,35,sG.seq hB.bt.ls,hat,x.e,35,sG.seq hX.en,bH,x.f.fa,35,sG<*hX.fn.fn,rfl,x.f.ra,5,.inr (sG<*hX.fn.rw_),19,(by rw[lr]; lia),?_];rw[lb,lr,er];show#[21,b,5,.inl (sG.seq hB.bt.ls),19,(by rw[lb]; exact cb),21,b,35,sG.seq hB.bt.ls,hat,x.e,35,sG.seq hX.en,bH,x.f.fa,35,sG<*hX.fn.fn,rfl,x.f.ra,5,.inr (sG<*hX.fn.rw_),19,(by rw[lr]; unfold lq; lia),?_];show#[5,.inl #[6,aH.of ec],21,bI,λp hp=>?_];have yp:=Same.new (o:=.tup [V.int ((k:Nat):Int),V.int ((r:Nat):Int)]) hp;have ep:=yp _ _ ec;show#[cl,19,ep,bj (n:=us.length+1) ∅,16,ch++[(k,r)],us++[V.ref p],rfl,(sG\yp).upd hcl,aF,(aR ncv.symm)\(yp _ _ ev),?_,by rw[JE,lch]; rfl,λc hc=>?_]
     . rw[JB];exact dZ (DatAll.mono ((gy yp)\(fb ep)) _ _ dch) (DatV.mono (fb ep) _ _ (Ua.DatV.tl _ _ (rK _) (cQ (aJ.of aF) (cx _) (cx _))))
     . rcases JZ.mp hc with h|h
       . exact och c h
       . rw[JK.mp h];show#[by show k<bs.length; lia,by show r<(bh bs).getD k 0; rw[rlk k x hx]; lia]
   rintro σ G0 ⟨z,v6,v7,v8,ch,us,rfl,sG0,ec0,ev0,dch0,lch,och⟩;have lus:us.length=n:=by rw[bS dch0,J7,lch]
   show#[21,∅,∅,?_];refine(let Jv2:Nat->St->Hp->Prop:=λj σ G=>∃(z:Int) (ct:Nat) (v6 v7 v8 v10 v11 v12 v13 v14:JM V) (vs:List V) (vw:List (List (JM BTr))),σ=[⇑(.int z),⇑↥b,⇑↥lA,⇑↥cl,⇑↥vl,⇑(.int n),v6,v7,v8,⇑(.int (ct:Nat)),v10,v11,v12,v13,v14]/\Same H G/\G cl=⇑(.lst us)/\G vl=⇑(.lst vs)/\DatAll K (tl G) (ch.map ii) us/\DatAll K (ers vl (nwL H G)) (vw.map d7) vs/\vw.length=j/\(∀(m:Nat) c v,ch[m]?=⇑c->vw[m]?=⇑v->v.length=dW bs c.1)/\∀v∈vw,∀o∈v,cp o; fO (lo:=0) (n:=n) Jv2 #[_,(0),256,[],[],rfl,sG0,ec0,ev0,dch0,bK,rfl,(λm c v _ h=>by cases h),λv hv=>by cases hv] ?_ ?_)
   . rintro j σ G hj ⟨z,ct,v6,v7,v8,v10,v11,v12,v13,v14,vs,vw,rfl,sG,ec,ev,dch,dvw,lvw,cvw,okv⟩;have lvs:vs.length=j:=by rw[bS dvw,J7,lvw]
     obtain⟨d,hd⟩:∃d,ch[j]?=⇑d:=#[_,JA ∅]
     let#[y,hy,dy]:=eK dch hd;let#[fA,y1,y2,rfl,hf,hy1,hy2]:=dE dy;cases g6 hy1;have dk:=(och d (J9 hd)).1;obtain⟨x,hx⟩:∃x,bs[d.1]?=⇑x:=#[_,JA dk]
     have hX:=hB.bt.all x (J9 hx);have cnx:dW bs d.1=x.cnt:=(lX (by rw[JC,hx]; rfl))\(hB.cn x (J9 hx)).symm;show#[21,cl,35,aH.of ec,(by rw[Ji]; exact bY hy),fA,35,kR<*hf,bH,?_];show#[c8,λaA haA=>?_];have x6:=Same.new (o:=.lst []) haA;show#[λσ G'=>∃(av:V) (v8 v11 v12 v13 v14:JM V) (ah:List (JM BTr)),σ=[⇑(.int z),⇑↥b,⇑↥lA,⇑↥cl,⇑↥vl,⇑(.int n),⇑(.int (0+(j:Int))),⇑(.int ((d.1:Nat):Int)),v8,⇑(.int (ct:Nat)),⇑av,v11,v12,v13,v14]/\Same G G'/\DatV K G' (d7 ah) av/\(∀o∈ah,cp o)/\(ah=[]\/ah.length=x.cnt),?_,?_]
     . have hE:DatV K (upd G aA (.lst [])) (d7 []) ↥aA:=bO (aH.of aF) bK;have t6:=sG\x6;show#[21,lA,35,t6<*hlA,bH,cA,5,.inl (t6.seq hcs),77,?_];by_cases hj2:j<m0.ch.length
       case neg=>exact au (by walk_at "l") (gS #[64,[],rfl,x6,hE,(λo h=>by cases h),.inl rfl])
       obtain⟨d0,hd0⟩:∃d0,m0.ch[j]?=⇑d0:=#[_,JA hj2]
       obtain⟨v0,hv0⟩:∃v0,m0.vs[j]?=⇑v0:=#[_,JA (by rw[g0.vl]; exact hj2)]
       let#[u0,hu0,du0]:=eK dcs hd0;let#[f0,u1,u2,rfl,hf0,hu1,hu2]:=dE du0;cases g6 hu1;let#[w1,hw1,dw1]:=eK dws hv0;refine az (by walk_at "l") #[5,lA,35,t6<*hlA,bH,5,cA,35,t6.seq hcs,(by rw[Ji]; exact bY hu0),f0,35,t6<*hf0,bH,45,?_];by_cases hk:d0.1=d.1
       . refine az (Jg (by rw[hk])) #[5,lA,35,t6<*hlA,13,wA,35,t6.seq hws,(by rw[Ji]; exact bY hw1),w1,32,v0,rfl,x6,DatV.mono t6 _ _ dw1,g0.ok v0 (J9 hv0),.inr ?_];rw[g0.cn j d0 v0 hd0 hv0,hk,cnx]
       . exact au (λh=>hk (by have:=V.int.inj (dX h); lia)) #[64,[],rfl,x6,hE,(λo h=>by cases h),.inl rfl]
     rintro σ G1 ⟨av,v8,v11,v12,v13,v14,ah,rfl,sG1,dav,okah,lah⟩;let#[aA',ys,rfl,hys,dys]:=cX dav;show#[c8,λpA hpA=>?_];have xp:=Same.new (o:=.lst []) hpA;have sB:=sG\sG1;have b24:=hX.cn;show#[21,b,35,(sB\xp).seq hB.bt.ls,bY (by rw[JC,hx]; rfl),x.e,35,(sB\xp).seq hX.en,13,∅,∅,?_];refine(let Jv3:Nat->St->Hp->Prop:=λm σ H8=>∃(z:Int) (ct:Nat) (v8 v12 v13 v14:JM V),σ=[⇑(.int z),⇑↥b,⇑↥lA,⇑↥cl,⇑↥vl,⇑(.int n),⇑(.int (0+(j:Int))),⇑(.int ((d.1:Nat):Int)),v8,⇑(.int (ct:Nat)),⇑↥aA',⇑↥pA,v12,v13,v14]/\Same G1 H8/\∃(ps:List V) (pl:List (JM BTr)),H8 pA=⇑(.lst ps)/\DatAll K (tl H8) (pl.map bE) ps/\pl.length=m/\∀o∈pl,cp o; fO (lo:=0) (n:=x.cnt) Jv3 #[129,xp,[],[],aF,bK,rfl,λo h=>by cases h] ?_ ?_)
     . rintro m σ H8 hm ⟨z,ct,v8,v12,v13,v14,rfl,s8,ps,pl,e8,d8,lpl,okp⟩;have lps:ps.length=m:=by rw[bS d8,J7,lpl]
       have wb:=cG z 10 #[];let#[wn,ew]:=JT wb.1;have w10:wn<10:=by lia
       show#[83,(show(0:Int)<10 by decide),?_];show#[83,#[#[],#[]],?_];rw[ew];generalize z / 10=z;have fin:∀(o:JM BTr) (v:V) (G':Hp),Same H8 G'->DatV K G' (bE o) v->cp o->Same G1 (upd G' pA (.lst (ps++[v])))/\∃(ps':List V) (pl':List (JM BTr)),upd G' pA (.lst (ps++[v])) pA=⇑(.lst ps')/\DatAll K (tl (upd G' pA (.lst (ps++[v])))) (pl'.map bE) ps'/\pl'.length=m+1/\∀o∈pl',cp o:=λo v G' s' dv ov=>by
         have e':=s' _ _ e8;show#[(s8\s').upd hpA,_,pl++[o],aF,?_,by rw[JE,lpl]; rfl,λo' h=>?_]
         . rw[JB];exact dZ (DatAll.mono ((gy s')\(fb e')) _ _ d8) (DatV.mono (fb e') _ _ (Ua.DatV.tl _ _ (pU o) dv))
         . rcases JZ.mp h with h|h
           . exact okp o' h
           . rw[JK.mp h]; exact ov
       have ln:ps.length<sizeLine:=bj (n:=ps.length+1) ∅;show#[45,?_];by_cases w8:wn=8
       . subst w8;refine az (Jg rfl) #[5,c8,λeN heN=>?_];have xN:=Same.new (o:=.lst []) heN;show#[4,DatV.mono (s8\xN) _ _ dav,bO (aH.of aF) bK,(mY λo h=>(okah o h).1).shaped #[],(ag.list (n:=0) (λd h=>by cases h)).shaped #[],5,?_];rw[show PyData.eqv (d7 ah) (.list [])=(ah.map bE).isEmpty from mQ _];have eN:=xN _ _ e8;cases hah:ah with
         | nil =>
           refine au 0xB ?_;show#[333,?_];refine az rfl ?_;show#[5,.inl #[6,aH.of eN],pA,19,eN,ln,129,fin none .non _ xN pK #[True.intro,True.intro]]
         | cons a0 ar =>
           have hne:ah≠[]:=by rw[hah]; exact La _ _
           have lh:ah.length=x.cnt:=lah.resolve_left hne;obtain⟨oa,hoa⟩:∃oa,ah[m]?=⇑oa:=#[_,JA ∅]
           let#[ya,hya,dya]:=eK dys hoa;exact az rfl #[5,.inl #[6,aH.of eN],21,aA',35,(s8\xN).seq hys,(by rw[Ji]; exact bY hya),pA,19,eN,ln,129,fin oa ya _ xN (DatV.mono (s8\xN) _ _ dya) (okah oa (J9 hoa))]
       refine au (λh=>w8 (by have:=V.int.inj (dX h); lia)) (gS #[333,?_]);by_cases w9:wn=9
       . exact az (by walk_at "l") #[5,.inl #[6,aH.of e8],pA,19,e8,ln,129,fin none .non _ (Same.refl _) pK #[True.intro,True.intro]]
       refine au (by walk_at "l") #[333,?_];by_cases hct:2<ct
       . refine az (by walk_at "l") ?_;let#[k1,ek1]:=JT (cG z 128 #[]).1;let#[k2,ek2]:=JT (cG z 64 #[]).1;have k1b:=(cG z 128 #[]).2;have k2b:=(cG z 64 #[]).2;show#[5,.inl #[6,aH.of e8],83,(show(0:Int)<128 by decide),bI,λp1 hp1=>#[83,(show(0:Int)<64 by decide),bI,λp2 hp2=>#[bI,λl2 hl2=>?_]]];rw[ek1] at hp2 hl2 ⊢;rw[ek2] at hl2 ⊢;have y1:=Same.new (o:=.tup [V.str "box",V.int (k1:Nat)]) hp1;have y2:=Same.new (o:=.tup [V.str "num",V.int (k2:Nat)]) hp2;have y3:=Same.new (o:=.lst [V.ref p1,V.ref p2]) hl2;have y123:=(y1\y2).trans y3;obtain⟨o,v,hov,dov,oov⟩:∃(o:JM BTr) (v:V),bo [V.ref p1,V.ref p2] ((wn:Int)%2)=⇑v/\DatV K (upd (upd (upd H8 p1 (.tup [V.str "box",V.int (k1:Nat)])) p2 (.tup [V.str "num",V.int (k2:Nat)])) l2 (.lst [V.ref p1,V.ref p2])) (bE o) v/\cp o:=by
           have:(wn:Int)%2=0\/(wn:Int)%2=1:=by lia
           rcases this with e|e
           . show#[⇑(.box k1),↥p1,by rw[e]; rfl,cQ (aJ.of (y3 _ _ (y2 _ _ aF))) (dQ _) (cx _),#[#[by show k1<8 ^ 16; rw[ej]; lia,by show 1<=8; decide],by show k1<=127; lia]]
           . show#[⇑(.num k2),↥p2,by rw[e]; rfl,cQ (aJ.of (y3 _ _ aF)) (dQ _) (cx _),#[#[by show k2<8 ^ 16; rw[ej]; lia,by show 1<=8; decide],trivial]]
         have e3:=y123 _ _ e8;show#[83,(show(0:Int)<2 by decide),l2,35,aH.of aF,hov,pA,19,e3,ln,?_];show#[83,#[#[],#[]],129,fin o v _ y123 dov oov]
       . refine au (by walk_at "l") ?_;show#[83,?_];show#[678,wn+1,rfl,∅,∅,∅,λp1 tr v c' H9 s9 q1 b1 o1 z1 l1=>?_];show#[p1,5,q1,403,?_];have e9:=s9 _ _ e8;show#[5,.inl #[6,aH.of e9],5,pA,19,e9,ln,c',ct+1,33,fin ⇑tr v _ s9 b1 #[#[o1,∅],z1]]
     . rintro σ H8 ⟨z,ct,v8,v12,v13,v14,rfl,s8,ps,pl,e8,d8,lpl,okp⟩;have sV:=sG1\s8;have eV:=sV _ _ ev;have eC:=sV _ _ ec;have nP2:pA≠vl:=(aY (sG1 _ _ ev) hpA).symm;have fpA:H pA=none:=sB.free hpA;show#[5,.inl #[6,aH.of eV],5,vl,19,eV,bj (n:=vs.length+1) ∅,2048,vw++[pl],rfl,(sG\sV).upd fvl,(aR ncv)\eC,aF,DatAll.mono ((gy sV)\(fb eV)) _ _ dch,?_,by rw[JE,lvw]; rfl,?_,?_]
       . rw[lD,JB];refine dZ (L2.DatAll.mono (Same.ers (Same.nwL sV)) _ _ dvw) (bO (aH.of (by rw[aU nP2,eI fpA]; exact e8)) (L2.DatAll.mono (wD (sG\sV) eV) _ _ d8))
       . intro m' c v hc hv;rcases mC hv with⟨_,hv⟩|⟨hm',rfl⟩
         . exact cvw m' c v hc hv
         . have:m'=j:=by lia
           subst this;rw[hd] at hc;cases hc;rw[lpl,cnx]
       . intro v hv;rcases JZ.mp hv with h|h
         . exact okv v h
         . rw[JK.mp h]; exact okp
   . rintro σ G ⟨z,ct,v6,v7,v8,v10,v11,v12,v13,v14,vs,vw,rfl,sG,ec,ev,dch,dvw,lvw,cvw,okv⟩;show#[21,bI,λpT hpT=>?_];have xT:=Same.new (o:=.tup [V.ref cl,V.ref vl]) hpT;have fpT:H pT=none:=sG.free hpT;have sT:=sG\xT;have okN:MG (bh bs) (dW bs) ⟨ch,vw⟩:=#[by show ch.length<=3; lia,λc hc=>by rw[lrl]; exact och c hc,by show vw.length=ch.length; lia,cvw,okv]
     refine q #[ch,vw] _ _ sT (cQ (aJ.of (by rw[eI fpT]; exact aF)) (bO (aH.of (by rw[eI hcl]; exact xT _ _ ec)) ?_) (bO (aH.of (by rw[eI fvl]; exact xT _ _ ev)) (L2.DatAll.mono (bT\(Same.nwL xT)) _ _ dvw))) (okN.fit (by show 1<=ch.length; lia));exact DatAll.nwT sT _ _ (iu rK _) (L2.DatAll.mono (kR\xT) _ _ dch)
def j1:FnScope ["_law_cells","_law_built","_law_found","_law_at","_law_cell_here","_law_k","_law_last"] ["_law_cells","_law_built"] (ai oX):=by walk_at "s"
def CG (T:Txt K mg t):FnOk P w K mg base CX0 14 t.zg t.AU ["_law_cells","_law_built"] (DH K):=by
 have QP:=EG (P:=P) (w:=w) (base:=base) T;refine T.Aw.F.ok j1 (λvs H Q E h=>?_) (λcdv A outer s H vs Q E hr h=>?_)
 . let#[_,_,_,_,rfl,_]:=h;rfl
 . let#[cl,b,bs,cs,rfl,hB,hcl,lcs,l16,q]:=h;show#[_,(aI (mB (i:=2) j1.nd rfl 0x0 (N':=["_law_one"]) (js:=[none]) (by kernel_rfl) rfl (fe (aB 1)) dJ (λ_ _ _ _=>(aW (i:=0) (show(["_law_one"]:List Str).Nodup by decide +kernel) rfl 0x0 (.inr rfl))) (λ_ _ _ _=>cm) (λ_ _ _ _=>(bD aD)) 0x1) (aI (cK PassesOwn.never rfl (p9 rfl T.b_enumerate (aB 0>=>aD)) (dC rfl (bP (aW (i:=3) j1.nd rfl 0x0) (bP (aW (i:=4) j1.nd rfl 0x0) dB))) (aI (@aO _ _ 5 _ _ _ _ j1.nd rfl 0x0 (aB 3) 0x1 0x2) (fX (al (aq (aX qV) (aB 3) (b6 0x3 0x1 T.b_len bR (aB 1>=>aD)) (ac _)) (@aL _ _ _ (@aO _ _ 5 _ _ _ _ j1.nd rfl 0x0 (aZ c9<$>aB 4<*>(b6 0x3 0x1 T.b_len bR (aB 1>=>aD))) 0x1 0x2)) ax) (aI (@aO _ _ 6 _ _ _ _ j1.nd rfl 0x0 (aw (bD aD>=>bD aD>=>aD)) 0x1 0x2) (fX (al (aq (i4 hr.units) (aM 0x6 (aB 2) (aB 5) 0x5) (bD aD) (ac _)) (@aL _ _ _ (@aO _ _ 6 _ _ _ _ j1.nd rfl 0x0 (aM 0x6 (aM 0x6 (aB 2) (aB 5) 0x5) (iD iW aE) 0x5) 0x1 0x2)) ax) (@aL _ _ _ (@cF _ _ _ _ (bu JN JQ JR cf (aM 0x6 (aB 2) (aB 5) 0x5) ((aS T.Av QP 0xC ((aZ dh<$>aB 4<*>(b6 0x3 0x1 T.b_len bR (aB 1>=>aD)))>=>aB 1>=>aB 6>=>aD))>=>aD)) 0x1))))))) (~~~(aB 2)))),?_];have n12:=hB.bt.n12;have nb0:0<bs.length:=K7.mpr hB.bt.n0;have lbs:(bs.map λx=>V.ref x.e).length=bs.length:=J7 _;have lb:((bs.map λx=>V.ref x.e).length:Int)=(bs.length:Int):=by rw[lbs]
   show#[5,b,rfl,#[_,hB.bt.ls],λF hF=>?_];have hn0:New H (F::([]:List MV)):=#[by simp,λb hb=>by rw[JK.mp hb]; exact hF]
   refine(let Jv1:Nat->List V->Hp->Prop:=λi acc H2=>Same H H2/\H2 F=⇑(.lst acc)/\∃fs:List MV,acc=fs.map V.ref/\fs.length=i/\(∀f∈fs,H2 f=⇑(.lst []))/\New H (F::fs); ie (xs:=bs.map λx:Bd=>V.ref x.e) ∅ Jv1 #[Same.new hF,aF,[],7,(λf h=>by cases h),hn0] ?_ ?_ ?_)
   . rintro i acc H2 hi ⟨s2,e2,fs,rfl,lf,_,_⟩;show#[e2,by rw[J7]; lia,s2.seq hB.bt.ls]
   . rintro i y acc H2 hy ⟨s2,e2,fs,rfl,lf,ef,nF⟩;show#[c8,λp hp=>?_];have y1:=Same.new (o:=.lst []) hp;have e3:=y1 _ _ e2;have np:p≠F:=(aY e2 hp).symm;show#[e3,(s2\y1).upd hF,aF,fs++[p],(by rw[JB]; rfl),by rw[JE,lf]; rfl,λf hf=>?_,nF.snoc (os:=F::fs) hp (λb hb=>?_) λb hb=>s2.free hb]
     . rcases JZ.mp hf with h|h
       . rw[aR λz=>(KO.mp nF.nd).1 (by rw[<- z]; exact h)];exact y1 _ _ (ef f h)
       . rw[JK.mp h,aR np];exact aF
     . rcases JS.mp hb with rfl|hb
       . rw[e2]; exact λq=>by cases q
       . rw[ef b hb]; exact λq=>by cases q
   rintro acc H1 ⟨s1,eF1,fs,rfl,lf,ef1,nF⟩;rw[lbs] at lf;have hFf:∀f∈fs,f≠F:=λf hf z=>(KO.mp nF.nd).1 (z ▸ hf);have fix:∀{k j:Nat} {f:MV},fs[k]?=⇑f->fs[j]?=⇑f->k=j:=λ{k j f} h h'=>(L8 (JF.mp h).1 (KO.mp nF.nd).2).mp (h\h'.symm);have lcl:(cs.map V.int).length=cs.length:=J7 _;show#[5,cl,rfl,#[_,s1.seq hcl],(let Jv2:Nat->St->Hp->Prop:=λi σ G=>∃(v3 v4 v5 v6:JM V) (aT:List (List Mk)),σ=[⇑↥cl,⇑↥b,⇑↥F,v3,v4,v5,v6]/\Same H G/\LL H1 G/\G F=⇑(.lst (fs.map V.ref))/\aT.length=bs.length/\(∀(k:Nat) f ms,fs[k]?=⇑f->aT[k]?=⇑ms->∃us,G f=⇑(.lst us)/\DatAll K (nwL H1 G) (ms.map fU) us)/\(∀ms∈aT,ms.length<=i/\∀m∈ms,MFit (bh bs) (dW bs) m)/\∀(k:Nat) ms,aT[k]?=⇑ms->k<i->1<=ms.length; tL (xs:=cs.map V.int) Jv2 #[16,bs.map λ_=>[],rfl,s1,LL.refl _,eF1,J7 _,(λk f ms hf hm=>?_),(λms hm=>?_),λk ms _ h=>absurd h (Js k)] ?_ ?_ ?_)]
   . rw[JC] at hm;cases e:bs[k]? with
     | none=>rw[e] at hm; cases hm
     | some x=>rw[e] at hm; cases hm; show#[[],ef1 f (J9 hf),bK]
   . let#[x,_,rfl]:=JW.mp hm;show#[JG _,λm h=>by cases h]
   . rintro i σ G hi ⟨v3,v4,v5,v6,aT,rfl,sG,_⟩;exact sG.seq hcl
   . rintro i y σ G p hy ⟨v3,v4,v5,v6,aT,rfl,sG,aG,eF,lm,hd,hfit,hone⟩ hp;let#[z,hz,_,rfl]:=j0 hy;have i16:i<16:=by have:=(JF.mp hz).1; lia
     have yp:=Same.new (o:=.tup [.int i,.int z]) hp;show#[p,5,aJ.of aF,403,?_];have sG2:=sG\yp;have eF2:=yp _ _ eF;have aG2:=aG.same yp;have hd2:∀(k:Nat) f ms,fs[k]?=⇑f->aT[k]?=⇑ms->∃us,upd G p (.tup [.int i,.int z]) f=⇑(.lst us)/\DatAll K (nwL H1 (upd G p (.tup [.int i,.int z]))) (ms.map fU) us:=λk f ms h h'=>by let#[us,e,d]:=hd k f ms h h';show#[us,yp _ _ e,DatAll.mono (Same.nwL yp) _ _ d]
     clear hd eF aG sG;generalize upd G p (.tup [.int i,.int z])=G2 at sG2 eF2 aG2 hd2 ⊢;show#[5,?_];refine(let Jv3:St->Hp->Prop:=λσ G3=>G3=G2/\∃kn:Nat,σ=[⇑↥cl,⇑↥b,⇑↥F,⇑(.int i),⇑(.int z),⇑(.int (kn:Nat)),v6]/\kn<bs.length/\(i<bs.length->kn=i); #[Jv3,?_,?_])
     . show#[21,b,5,.inl (sG2.seq hB.bt.ls),77,?_];rw[lb];by_cases hi2:i<bs.length
       . exact au (by walk_at "l") #[rfl,i,rfl,hi2,λ_=>rfl]
       . let#[k,ek]:=JT (cG z (bs.length:Int) ∅).1;have kb:=(cG z (bs.length:Int) ∅).2;refine az (by walk_at "l") #[21,b,5,.inl (sG2.seq hB.bt.ls),19,(by rw[lb]; lia),?_];rw[lb,ek];show#[rfl,k,rfl,∅,λh=>absurd h hi2]
     rintro σ G3 ⟨rfl,kn,rfl,hkn,hki⟩;obtain⟨f,hf⟩:∃f,fs[kn]?=⇑f:=#[_,JA ∅]
     obtain⟨ms,hms⟩:∃ms,aT[kn]?=⇑ms:=#[_,JA ∅]
     let#[us,eU,dU]:=hd2 kn f ms hf hms;have lus:us.length=ms.length:=by rw[bS dU,J7]
     have hmi:=(hfit ms (J9 hms)).1;have hat:∀{H':Hp},Same G3 H'->aH K H' F (fs.map V.ref):=λs=>aH.of (s _ _ eF2);have fat:bo (fs.map V.ref) ((kn:Nat):Int)=⇑(V.ref f):=bY (by rw[JC,hf]; rfl);show#[c8,λc0 hc0=>#[c8,λw0 hw0=>#[bI,λp0 hp0=>?_]]];have x2:=Same.new (o:=.lst []) hw0;have x3:=Same.new (o:=.tup [V.ref c0,V.ref w0]) hp0;have d0:DatV K (upd (upd (upd G3 c0 (.lst [])) w0 (.lst [])) p0 (.tup [V.ref c0,V.ref w0])) (fU cY) ↥p0:=cQ (aJ.of aF) (bO (aH.of (x3 _ _ (x2 _ _ aF))) bK) (bO (aH.of (x3 _ _ aF)) bK);have x13:=((Same.new (o:=.lst []) hc0)\x2).trans x3;generalize upd (upd (upd G3 c0 (.lst [])) w0 (.lst [])) p0 (.tup [V.ref c0,V.ref w0])=G4 at x13 d0 ⊢;refine(let Jv4:St->Hp->Prop:=λσ G5=>Same G3 G5/\∃(lv:V) (lm:Mk),σ=[⇑↥cl,⇑↥b,⇑↥F,⇑(.int i),⇑(.int z),⇑(.int (kn:Nat)),⇑lv]/\DatV K G5 (fU lm) lv/\MG (bh bs) (dW bs) lm; #[Jv4,?_,?_])
     . show#[21,F,35,hat x13,fat,c8,λeN heN=>?_];have xN:=Same.new (o:=.lst []) heN;have eU4:=x13 _ _ eU;have lay0:∀d∈ms.map fU,ag 11 d:=λd hd=>by let#[m,hm,rfl]:=JW.mp hd;exact FF ((((hfit ms (J9 hms)).2 m hm).mok (j' hB)))
       show#[.list (ms.map fU),.list [],bO (aH.of (xN _ _ eU4)) (DatAll.mono ((kH\x13).trans xN) _ _ dU),bO (aH.of aF) bK,(ag.list lay0).shaped #[],(ag.list (n:=0) (λd h=>by cases h)).shaped #[],5,?_];rw[mQ];cases hmc:ms with
       | nil=>exact au 0xB #[x13\xN,_,cY,rfl,DatV.mono xN _ _ d0,mg0 _ _]
       | cons m1 mr =>
         refine az rfl ?_;obtain⟨m,hm⟩:∃m,ms[ms.length - 1]?=⇑m:=#[_,JA (by rw[hmc]; simp)]
         let#[ya,hya,dya]:=eK dU hm;have l0:us.length≠0:=by rw[lus,hmc]; simp
         have hlast:bo us (-1)=⇑ya:=by unfold bo dM;rw[JI ∅,JJ ∅];show us[((-1:Int)+(us.length:Int)).toNat]?=⇑ya;rw[show((-1:Int)+(us.length:Int)).toNat=ms.length - 1 by lia];exact hya
         show#[21,F,35,hat (x13\xN),fat,5,f,35,aH.of (xN _ _ eU4),hlast,x13\xN,ya,m,rfl,DatV.mono ((kH\x13).trans xN) _ _ dya,MG.of ((hfit ms (J9 hms)).2 m (J9 hm))]
     rintro σ G5 ⟨s5,lv,lmk,rfl,dlv,glv⟩;have eU5:=s5 _ _ eU;have s05:=sG2\s5;show#[21,F,35,hat s5,fat,.inl #[6,aH.of eU5],21,b,5,.inl (s05.seq hB.bt.ls),19,(by rw[lb]; unfold lq; lia),42,b,bs,lv,lmk,rfl,hB*>s05,dlv,glv,λm v G6 s6 d6 f6=>?_];have eU6:=s6 _ _ eU5;have s36:=s5\s6;have hfm:=J9 hf;have lH1:H1 f=⇑(.lst []):=ef1 f hfm;show#[f,19,eU6,bj (n:=us.length+1) ∅,16,aT.set kn (ms++[m]),rfl,(s05\s6).upd (nF.nw f (Jc _ hfm)),(aG2.same s36).put,(aR (hFf f hfm).symm)\(s36 _ _ eF2),by rw[Ko]; exact lm,λk g ms' hg hm'=>?_,λms' hm'=>?_,λk ms' hm' hk=>?_]
     . by_cases hk:k=kn
       . subst hk;rw[hf] at hg;cases hg;rw[KI ∅] at hm';cases hm';show#[_,aF,?_];rw[JB];exact dZ (DatAll.mono ((Same.nwL s36)\(qZ lH1)) _ _ dU) (DatV.mono ((El (aG2.same s5))\(qZ lH1)) _ _ d6)
       . rw[KR (λz=>hk z.symm)] at hm';let#[us',e',d']:=hd2 k g ms' hg hm';show#[us',(aR λz=>hk (fix (by rw[<- z]; exact hg) hf))\(s36 _ _ e'),DatAll.mono ((Same.nwL s36)\(qZ lH1)) _ _ d']
     . rcases M0 hm' with h|h
       . have:=hfit ms' h;show#[∅,this.2]
       . rw[h];show#[by rw[JE]; show ms.length+1<=i+1; lia,λm' h'=>?_];rcases JZ.mp h' with h' | h'
         . exact(hfit ms (J9 hms)).2 m' h'
         . rw[JK.mp h']; exact f6
     . by_cases hk2:k=kn
       . subst hk2;rw[KI ∅] at hm';cases hm';rw[JE];exact Nat.le_add_left 1 _
       . have hk3:k<i:=by
           have:k<bs.length:=by
             have:=(JF.mp hm').1;rw[Ko] at this
             lia
           rcases Jx k i with h|h
           . exact h
           . have:k=i:=by lia
             subst this;exact absurd (hki ∅).symm hk2
         rw[KR (λz=>hk2 z.symm)] at hm';exact hone k ms' hm' hk3
   . rintro σ G ⟨v3,v4,v5,v6,aT,rfl,sG,aG,eF,lm,hd,hfit,hone⟩;rw[lcl] at hfit hone;show#[5,q aT _ G sG (bO (aH.of eF) (lW (by rw[J7,J7]; lia) λk d x hk hx=>?_)) lm λms hm=>?_]
     . rw[JC] at hk hx;cases e1:aT[k]? with
       | none=>rw[e1] at hk; cases hk
       | some ms =>
         rw[e1] at hk;cases hk;cases e2:fs[k]? with
         | none=>rw[e2] at hx; cases hx
         | some f =>
           rw[e2] at hx;cases hx;let#[us,e,d]:=hd k f ms e2 e1;exact bO (aH.of e) (DatAll.mono kH _ _ d)
     . let#[k,hk]:=K0 hm;have kb:=(JF.mp hk).1;have:=hfit ms hm;show#[#[hone k ms hk ∅,∅,this.2],∅]
def iB:FnScope ["_law_cell_here","_law_many","_law_base","_law_built","_law_k","_law_params","_law_more","_law_blocks","_law_rows","_law_names"] ["_law_cell_here","_law_many","_law_base"] (ai nG):=by walk_at "s"
def Ej (T:Txt K mg t):FnOk P w K mg base CX0 3 t.ze t.AS ["_law_cell_here","_law_many","_law_base"] (BM K):=by
 have Qc:=tE (P:=P) (w:=w) (base:=base) T;refine T.Au.F.ok iB (λvs H Q E h=>?_) (λcdv A outer s H vs Q E hr h=>?_)
 . let#[_,_,_,rfl,_]:=h;rfl
 . let#[c,b,n,rfl,n1,n12,q]:=h;show#[_,(aI (@aO _ _ 3 _ _ _ _ iB.nd rfl 0x0 (bD aD) 0x1 0x2) (aI (cK PassesOwn.never rfl (cW rfl T.b_range (aB 1>=>aD)) (aW (i:=4) iB.nd rfl 0x0) (aI (@aO _ _ 5 _ _ _ _ iB.nd rfl (Or.inr rfl) (aZ c9<$>aB 0<*>aE) 0x1 0x2) (aI (@aO _ _ 6 _ _ _ _ iB.nd rfl 0x0 (aZ c9<$>(aZ dh<$>aB 0<*>aE)<*>aE) 0x1 0x2) (aI (@aO _ _ 7 _ _ _ _ iB.nd rfl 0x0 (aZ c9<$>(aZ dh<$>(aZ dh<$>aB 0<*>aE)<*>aE)<*>aE) 0x1 0x2) (aI (mB (i:=8) iB.nd rfl 0x0 (N':=["_law_j","_law_base","_law_params"]) (js:=[none,some 2,some 5]) (by kernel_rfl) rfl (cW rfl T.b_range (aB 6>=>aD)) dJ (λ_ _ _ _=>(aW (i:=0) (show(["_law_j","_law_base","_law_params"]:List Str).Nodup by decide +kernel) rfl 0x0 (.inr rfl))) (λ_ _ _ _=>cm) (λ_ _ _ _=>(aw (ak>=>(aS T.j5 Qc 0xC (aB 1>=>(aX bL<$>aB 2<*>aB 0)>=>aD))>=>aE>=>aD))) 0x1) (aI (@aO _ _ 8 _ _ _ _ iB.nd rfl 0x0 (lg<$>(lg<$>aB 8<*>(sJ<$>(bD ((aw (ak>=>aE>=>aD))>=>(aw (ak>=>aD))>=>(aw (ak>=>aD))>=>aD))<*>aB 7))<*>(bD ((aw (ak>=>aE>=>aD))>=>aD))) 0x1 0x2) (aI (@aO _ _ 9 _ _ _ _ iB.nd rfl 0x0 (eO jr 0x1 T.b_tuple ip ((eJ (N':=["_law_j","_law_base"]) (js:=[none,some 2]) (by kernel_rfl) rfl (cW rfl T.b_range (aB 5>=>aD)) dJ (λ_ _ _ _=>(aW (i:=0) (show(["_law_j","_law_base"]:List Str).Nodup by decide +kernel) rfl 0x0 (.inr rfl))) (λ_ _ _ _=>cm) (λ_ _ _ _=>(aS T.j5 Qc 0xC (aB 1>=>aB 0>=>aD))))>=>aD)) 0x1 0x2) (aI (@cF _ _ _ _ (bu JN JQ JR cf (aB 3) ((bD ((aw ((aS T.j5 Qc 0xC (aB 2>=>(aX bL<$>aB 4<*>aE)>=>aD))>=>(gg bq (aZ c9<$>(aZ dh<$>(aZ dh<$>(aZ dh<$>aB 0<*>aE)<*>aE)<*>aE)<*>aE) aE (ac _))>=>aB 9>=>(eO jr 0x1 T.b_tuple ip (aB 8>=>aD))>=>aD))>=>(aX bL<$>aB 5<*>aB 6)>=>aD))>=>aD)) 0x1) (@aL _ _ _ (@aO _ _ 0 _ _ _ _ iB.nd rfl 0x0 (aZ dh<$>(aZ dh<$>(aZ dh<$>(aZ dh<$>aB 0<*>aE)<*>aE)<*>aE)<*>aE) 0x1 0x2)))))))))) (~~~(aB 3)))),?_];show#[c8,λL hL=>?_];have gL:=Same.new (o:=.lst []) hL;show#[21,∅,∅,?_];refine(let Jv1:Nat->St->Hp->Prop:=λi σ G=>∃(z:Int) (v4 v5 v6 v7 v8 v9:JM V),σ=[⇑(.int z),⇑(.int n),⇑(.int b),⇑↥L,v4,v5,v6,v7,v8,v9]/\Same H G/\∃bs:List Bd,G L=⇑(.lst (bs.map λx=>V.ref x.e))/\(∀x∈bs,EntAt K (ers L G) x)/\bs.map (λx=>x.f.name)=((List.range i).map λj:Nat=>aj b ((j:Int)+3))/\∀x∈bs,x.cnt=(F2.nms x.f).length; fO (lo:=0) (n:=n) Jv1 #[257,gL,[],aF,(λx hx=>by cases hx),rfl,λx hx=>by cases hx] ?_ ?_)
   . rintro i0 σ G0 hi0 ⟨z,v4,v5,v6,v7,v8,v9,rfl,sHG,bs,eL,hall,hnm,hcn⟩;have lbs:bs.length=i0:=by have:=Jj List.length hnm;rwa [J7,J7,JY] at this
     have sG0:=Same.refl G0;let#[p,ep]:=JT (cG z 7 #[]).1;let#[m,em]:=JT (cG (z / 7) 19 #[]).1;let#[n,en]:=JT (cG (z / 7 / 19) 13 #[]).1;have p6:p<=6:=by have:=(cG z 7 #[]).2; lia
     have m18:m<=18:=by have:=(cG (z / 7) 19 #[]).2; lia
     have n12:n<=12:=by have:=(cG (z / 7 / 19) 13 #[]).2; lia
     show#[83,(show(0:Int)<7 by decide),?_];show#[83,#[#[],#[]],19,(show(0:Int)<19 by decide),?_];show#[83,#[#[],#[]],19,#[#[],#[]],19,(show(0:Int)<13 by decide),?_];rw[ep,em,en];show#[21,∅,∅,λu hu=>(let Jv2:Nat->List V->Hp->Prop:=λi acc H2=>Same G0 H2/\H2 u=⇑(.lst acc)/\∃rr:List K41.RR,acc=(rr.map λx=>V.ref x.w.r)/\rr.map (λx=>x.w.k)=List.replicate i ("copy":Str)/\((rr.map (·.d)).flatMap K12.rowStrs=(List.range i).map λj:Nat=>aj b ((p:Int)+(j:Int)))/\∀x∈rr,iE K (ers u H2) x; gG (lo:=0) (n:=m) ∅ Jv2 #[Same.new hu,aF,[],15,λx hx=>by cases hx] ?_ ?_ ?_)]
     . rintro i acc H2 hi ⟨s2',e2',rr,rfl,kk,_,_⟩;show#[e2',?_];have:=Jj List.length kk;rw[J7,KP] at this;rw[J7,this];exact JG _
     . rintro i acc H2 hi ⟨s2',e2',rr,rfl,kk,dd,hrr⟩;show#[1363,b,(p:Int)+(0+(i:Int)),rfl,λH4 s4=>?_];show#[kZ,λcA hcA=>?_];have e4:=s4 _ _ e2';have nc:cA≠u:=(aY e4 hcA).symm;have yc:=Same.new (o:=.tup [V.str "copy",V.str (aj b ((p:Int)+(0+(i:Int)))),V.int 7]) hcA;have nm1:=jg b ((p:Int)+(0+(i:Int)));show#[yc _ _ e4,((s2'\s4).trans yc).upd hu,aF,rr++[Bg.rcopyV cA (aj b ((p:Int)+(0+(i:Int)))) 7],(by rw[JB]; rfl),(by rw[JB,kk,List.replicate_succ']; rfl),(by rw[JB,K6,dd,Jy,JB,Ji]; rfl),λx hx=>?_];rw[dH];rcases JZ.mp hx with h|h
       . exact(hrr x h).mono (s4\yc).ers
       . cases JK.mp h;have hT:aJ K (ers u (upd H4 cA (.tup [V.str "copy",V.str (aj b ((p:Int)+(0+(i:Int)))),V.int 7]))) cA [V.str "copy",V.str (aj b ((p:Int)+(0+(i:Int)))),V.int 7]:=aJ.of (by rw[aU nc]; exact aF);show#[Bg.ok_copyV hT nm1,bN.up (n:=1) (bN.tup hT (.cons (.str 0xA) (.cons (.str nm1.2) (.cons .int .nil)))) #[]]
     rintro acc G2 ⟨s2',e2',rr,rfl,kk,dd,hrr⟩;have lrr:rr.length=m:=by have:=Jj List.length kk;rwa [J7,KP] at this
     show#[5,bI,λt1 ht1=>#[ci,λt2 ht2=>#[ci,λt3 ht3=>#[kZ,λL1 hL1=>#[5,L1,19,aF,∅,∅,bj (by show 3 * ((n:Int)).toNat<1000000; lia),λL2 hL2=>?_]]]]];rw[K3];have v1:=Same.new (o:=.tup [V.str "if",V.int 0]) ht1;have v2:=Same.new (o:=.tup [V.str "else"]) ht2;have v3:=Same.new (o:=.tup [V.str "end"]) ht3;have v4:=Same.new (o:=.lst [V.ref t1,V.ref t2,V.ref t3]) hL1;have v5:=Same.new (o:=.lst (List.replicate n [V.ref t1,V.ref t2,V.ref t3]).flatten) hL2;have o1:=v5 _ _ (v4 _ _ (v3 _ _ (v2 _ _ (aF (H:=G2) (a:=t1) (o:=.tup [V.str "if",V.int 0])))));have o2:=v5 _ _ (v4 _ _ (v3 _ _ (aF (H:=upd G2 t1 (.tup [V.str "if",V.int 0])) (a:=t2) (o:=.tup [V.str "else"]))));have o3:=v5 _ _ (v4 _ _ (aF (H:=upd (upd G2 t1 (.tup [V.str "if",V.int 0])) t2 (.tup [V.str "else"])) (a:=t3) (o:=.tup [V.str "end"])));have o5:=aF (H:=upd (upd (upd (upd G2 t1 (.tup [V.str "if",V.int 0])) t2 (.tup [V.str "else"])) t3 (.tup [V.str "end"])) L1 (.lst [V.ref t1,V.ref t2,V.ref t3])) (a:=L2) (o:=.lst (List.replicate n [V.ref t1,V.ref t2,V.ref t3]).flatten);have v15:=(((v1\v2).trans v3).trans v4).trans v5;generalize upd (upd (upd (upd (upd G2 t1 (.tup [V.str "if",V.int 0])) t2 (.tup [V.str "else"])) t3 (.tup [V.str "end"])) L1 (.lst [V.ref t1,V.ref t2,V.ref t3])) L2 (.lst (List.replicate n [V.ref t1,V.ref t2,V.ref t3]).flatten)=G3 at o1 o2 o3 o5 v15 ⊢;have l3:(List.replicate n [V.ref t1,V.ref t2,V.ref t3]).flatten.length=n * 3:=jz _ _;show#[u,L2,19,v15 _ _ e2',o5,bj (by rw[J7,l3,lrr]; lia),λL3 hL3=>#[bI,λt4 ht4=>#[ci,λL4 hL4=>?_]]];have w3:=Same.new (o:=.lst ((rr.map λx=>V.ref x.w.r)++(List.replicate n [V.ref t1,V.ref t2,V.ref t3]).flatten)) hL3;have w4:=Same.new (o:=.tup [V.str "back",V.int 0]) ht4;have w5:=Same.new (o:=.lst [V.ref t4]) hL4;show#[L3,L4,19,w5 _ _ (w4 _ _ aF),aF,bj (by rw[JE,J7,l3,lrr]; show m+n * 3+1<1000000; lia),λL5 hL5=>?_];have w6:=Same.new (o:=.lst ((rr.map λx=>V.ref x.w.r)++(List.replicate n [V.ref t1,V.ref t2,V.ref t3]).flatten++[V.ref t4])) hL5;have o4:=w6 _ _ (w5 _ _ (aF (H:=upd G3 L3 (.lst ((rr.map λx=>V.ref x.w.r)++(List.replicate n [V.ref t1,V.ref t2,V.ref t3]).flatten))) (a:=t4) (o:=.tup [V.str "back",V.int 0])));have o6:=aF (H:=upd (upd (upd G3 L3 (.lst ((rr.map λx=>V.ref x.w.r)++(List.replicate n [V.ref t1,V.ref t2,V.ref t3]).flatten))) t4 (.tup [V.str "back",V.int 0])) L4 (.lst [V.ref t4])) (a:=L5) (o:=.lst ((rr.map λx=>V.ref x.w.r)++(List.replicate n [V.ref t1,V.ref t2,V.ref t3]).flatten++[V.ref t4]));have w36:=((w3\w4).trans w5).trans w6;generalize upd (upd (upd (upd G3 L3 (.lst ((rr.map λx=>V.ref x.w.r)++(List.replicate n [V.ref t1,V.ref t2,V.ref t3]).flatten))) t4 (.tup [V.str "back",V.int 0])) L4 (.lst [V.ref t4])) L5 (.lst ((rr.map λx=>V.ref x.w.r)++(List.replicate n [V.ref t1,V.ref t2,V.ref t3]).flatten++[V.ref t4]))=G4 at o4 o6 w36 ⊢;have s24:=v15\w36;obtain⟨rF,eF,kF,lF,hF,dF⟩:∃rF:List K41.RR,(rr.map λx=>V.ref x.w.r)++(List.replicate n [V.ref t1,V.ref t2,V.ref t3]).flatten++[V.ref t4]=(rF.map λx=>V.ref x.w.r)/\rF.map (λx=>x.w.k)=List.replicate m ("copy":Str)++(List.replicate n [("if":Str),"else","end"]).flatten++[("back":Str)]/\rF.length<=100/\(∀x∈rF,iE K G4 x)/\(rF.map (·.d)).flatMap K12.rowStrs=(List.range m).map λj:Nat=>aj b ((p:Int)+(j:Int)):=by
       show#[rr++(List.replicate n [K41.rone "if" t1 (.int 0),K41.rnone "else" t2,K41.rnone "end" t3]).flatten++[K41.rone "back" t4 (.int 0)],?_,?_,?_,?_,?_]
       . rw[JB,JB,Lc,LM];rfl
       . rw[JB,JB,Lc,LM,kk];rfl
       . rw[JE,JE,jz,lrr];show m+n * 3+1<=100
         lia
       . intro x hx;have r1:aJ K G4 t1 [V.str "if",V.int 0]:=aJ.of (w36 _ _ o1);have r2:aJ K G4 t2 [V.str "else"]:=aJ.of (w36 _ _ o2);have r3:aJ K G4 t3 [V.str "end"]:=aJ.of (w36 _ _ o3);have r4:aJ K G4 t4 [V.str "back",V.int 0]:=aJ.of o4;rcases JZ.mp hx with hx|hx
         . rcases JZ.mp hx with hx|hx
           . exact(hrr x hx).mono (bT\s24)
           . let#[l,hl,hxl]:=LA.mp hx;rw[(LN.mp hl).2] at hxl;rcases JS.mp hxl with h|h
             . rw[h]; show#[K41.ok_if r1 (K41.at_i 0),bN.up (n:=1) (bN.tup r1 (.cons (.str 0xA) (.cons .int .nil))) #[]]
             . rcases JS.mp h with h|h
               . rw[h]; show#[K41.ok_else r2,bN.up (n:=1) (bN.tup r2 (.cons (.str 0xA) .nil)) #[]]
               . rw[JK.mp h]; show#[K41.ok_end r3,bN.up (n:=1) (bN.tup r3 (.cons (.str 0xA) .nil)) #[]]
         . rw[JK.mp hx]; show#[K41.ok_back r4 (K41.at_i 0),bN.up (n:=1) (bN.tup r4 (.cons (.str 0xA) (.cons .int .nil))) #[]]
       . rw[JB,JB,K6,K6,dd];have e1:(((List.replicate n [K41.rone "if" t1 (.int 0),K41.rnone "else" t2,K41.rnone "end" t3]).flatten).map (·.d)).flatMap K12.rowStrs=[]:=by
           rw[MJ];intro d hd;let#[x,hx,rfl]:=JW.mp hd;let#[l,hl,hxl]:=LA.mp hx;rw[(LN.mp hl).2] at hxl;rcases JS.mp hxl with h|h
           . rw[h]; rfl
           . rcases JS.mp h with h|h
             . rw[h]; rfl
             . rw[JK.mp h]; rfl
         rw[e1,Jq];exact Jq _
     rw[eF] at o6;have s04:=(sG0\s2').trans s24;show#[21,∅,∅,λnu hnu=>(let Jv3:Nat->List V->Hp->Prop:=λi acc H2=>Same G4 H2/\H2 nu=⇑(.lst acc)/\acc=((List.range i).map λj:Nat=>aj b j).map V.str; gG (lo:=0) (n:=p) ∅ Jv3 #[Same.new hnu,aF,rfl] ?_ ?_ ?_)]
     . rintro i acc H2 hi ⟨sN,eN,rfl⟩;show#[eN,by rw[J7,J7,JY]; exact JG _]
     . rintro i acc H2 hi ⟨sN,eN,rfl⟩;show#[21,b,0+(i:Int),rfl,λH4 s4=>#[s4 _ _ eN,(sN\s4).upd hnu,aF,?_]];rw[Jy,JB,JB,Ji];rfl
     rintro acc G5 ⟨sN,eN,rfl⟩;show#[nu,5,.inl #[aH.of eN,λq1 hq1=>?_]];have x1:=Same.new (o:=.tup (((List.range p).map λj:Nat=>aj b j).map V.str)) hq1;have eL5:=(sN\x1) _ _ (s04 _ _ eL);show#[5,.inl #[6,aH.of eL5],339,b,(0+(i0:Int))+3,rfl,λG6 s6=>?_];show#[83,#[#[],#[]],19,#[#[],#[]],19,#[#[],#[]],19,(show(0:Int)<2 by decide),53,L5,5,.inl #[aH.of (s6 _ _ (x1 _ _ (sN _ _ o6))),λq2 hq2=>#[oU,λfa hfa=>?_]]];show#[339,bI,λe he=>?_];have y2:=Same.new (o:=.tup (rF.map λx=>V.ref x.w.r)) hq2;have y3:=Same.new (o:=.tup [V.str (aj b ((0+(i0:Int))+3)),V.bl (decide (V.int (z / 7 / 19 / 13%2)=V.int 1)),V.ref q1,V.ref q2]) hfa;have y4:=Same.new (o:=.lst [V.ref fa,V.int ((p:Int)+(m:Int))]) he;have s56:=x1\s6;have s46:=sN\s56;have p1:aJ K _ q1 (((List.range p).map λj:Nat=>aj b j).map V.str):=aJ.of (y4 _ _ (y3 _ _ (y2 _ _ (s6 _ _ (aF (H:=G5) (a:=q1) (o:=.tup (((List.range p).map λj:Nat=>aj b j).map V.str)))))));have p2:aJ K _ q2 (rF.map λx=>V.ref x.w.r):=aJ.of (y4 _ _ (y3 _ _ aF));have p3:aJ K _ fa [V.str (aj b ((0+(i0:Int))+3)),V.bl (decide (V.int (z / 7 / 19 / 13%2)=V.int 1)),V.ref q1,V.ref q2]:=aJ.of (y4 _ _ aF);have eE:=aF (H:=upd (upd G6 q2 (.tup (rF.map λx=>V.ref x.w.r))) fa (.tup [V.str (aj b ((0+(i0:Int))+3)),V.bl (decide (V.int (z / 7 / 19 / 13%2)=V.int 1)),V.ref q1,V.ref q2])) (a:=e) (o:=.lst [V.ref fa,V.int ((p:Int)+(m:Int))]);have s4e:=s46\((y2\y3).trans y4);have fr:=(s04\(s46\(y2\y3))).free he;have eE':upd (upd (upd G6 q2 (.tup (rF.map λx=>V.ref x.w.r))) fa (.tup [V.str (aj b ((0+(i0:Int))+3)),V.bl (decide (V.int (z / 7 / 19 / 13%2)=V.int 1)),V.ref q1,V.ref q2])) e (.lst [V.ref fa,V.int ((p:Int)+(m:Int))]) e=⇑(.lst [V.ref fa,V.int ((p+m:Nat):Int)]):=eE;have hps:∀s∈(List.range p).map λj:Nat=>aj b j,K12.Nm s:=λs hs=>by let#[j,_,rfl]:=JW.mp hs;exact jg b j
     have hrows:∀x∈rF,iE K (upd (upd (upd G6 q2 (.tup (rF.map λx=>V.ref x.w.r))) fa (.tup [V.str (aj b ((0+(i0:Int))+3)),V.bl (decide (V.int (z / 7 / 19 / 13%2)=V.int 1)),V.ref q1,V.ref q2])) e (.lst [V.ref fa,V.int ((p:Int)+(m:Int))])) x:=λx hx=>(hF x hx)*>s4e;have nk:=jg b ((0+(i0:Int))+3);have rne:rF≠[]:=λz=>by have:=Jj List.length kF;rw[z,JE] at this;simp at this
     obtain⟨x,hxe,hEnt,hname,hE,hcnt⟩:∃x:Bd,x.e=e/\EntAt K (upd (upd (upd G6 q2 (.tup (rF.map λx=>V.ref x.w.r))) fa (.tup [V.str (aj b ((0+(i0:Int))+3)),V.bl (decide (V.int (z / 7 / 19 / 13%2)=V.int 1)),V.ref q1,V.ref q2])) e (.lst [V.ref fa,V.int ((p:Int)+(m:Int))])) x/\x.f.name=aj b ((0+(i0:Int))+3)/\upd (upd (upd G6 q2 (.tup (rF.map λx=>V.ref x.w.r))) fa (.tup [V.str (aj b ((0+(i0:Int))+3)),V.bl (decide (V.int (z / 7 / 19 / 13%2)=V.int 1)),V.ref q1,V.ref q2])) e (.lst [V.ref fa,V.int ((p:Int)+(m:Int))]) x.e=⇑(.lst [↥x.f.fa,.int x.cnt])/\x.cnt=(F2.nms x.f).length:=by
       show#[#[#[aj b ((0+(i0:Int))+3),V.bl (decide (V.int (z / 7 / 19 / 13%2)=V.int 1)),fa,q1,q2,(List.range p).map λj:Nat=>aj b j,rF.map (·.w),rF.map (·.d)],p+m,e],rfl,#[aH.of eE',?_,?_,?_,by show p+m<=24; lia,nk.2,xo p2 λx hx=>(hrows x hx).1],rfl,eE',?_]
       . refine Bg.fn_mk2 rF p3 p2 (λx hx=>(hrows x hx).1) p1 hps (by rw[J7,JY]; lia) lF ?_;rw[kF];exact sj m n
       . refine .cons .bl (.cons (bN.up (n:=1) (bN.tup (n:=0) p1 (cz.of λv hv=>?_)) #[]) (.cons (bN.tup (n:=3) p2 (cz.of λv hv=>?_)) .nil))
         . let#[s,hs,rfl]:=JW.mp hv;exact .str (hps s hs).2
         . let#[x,hx,rfl]:=JW.mp hv;exact(hrows x hx).2
       . exact λz=>rne (Ln.mp z)
       . show p+m=(K12.onceL (K12.allOf ((List.range p).map λj:Nat=>aj b j) (rF.map (·.d)))).length;unfold K12.allOf;rw[dF,vN,wu (xy ∅),J7,JY]
     have sF:=s04\s4e;have eF':=sF _ _ eL;clear hrows p1 p2 p3 eE eE' y2 y3 y4 kF hF dF hps o6;generalize upd (upd (upd G6 q2 (.tup (rF.map λx=>V.ref x.w.r))) fa (.tup [V.str (aj b ((0+(i0:Int))+3)),V.bl (decide (V.int (z / 7 / 19 / 13%2)=V.int 1)),V.ref q1,V.ref q2])) e (.lst [V.ref fa,V.int ((p:Int)+(m:Int))])=HF at hEnt hE sF eF' ⊢;subst hxe;have ne:x.e≠L:=(aY eL fr).symm;show#[L,19,eF',bj (n:=(bs.map λx=>V.ref x.e).length+1) (by rw[J7]; lia),?_];show#[83,#[#[],#[]],19,#[#[],#[]],19,#[#[],#[]],19,#[#[],#[]],257,(sHG\sF).upd hL,bs++[x],(by rw[aF,JB]; rfl),λy hy=>?_,?_,λy hy=>?_]
     . rw[dH];rcases JZ.mp hy with h|h
       . exact(hall y h).mono (Same.ers sF)
       . rw[JK.mp h];exact tU hEnt eF' hE ne
     . rw[JB,hnm,Jy,JB];show _++[x.f.name]=_++[aj b ((i0:Int)+3)];rw[hname,Ji]
     . rcases JZ.mp hy with h|h
       . exact hcn y h
       . rw[JK.mp h]; exact hcnt
   . rintro σ G ⟨z,v4,v5,v6,v7,v8,v9,rfl,sHG,bs,eL,hall,hnm,hcn⟩;have lbs:bs.length=n:=by have:=Jj List.length hnm;rwa [J7,J7,JY] at this
     show#[5,q L bs G sHG #[#[aH.of eL,λx hx=>(hall x hx)*>bT,λh=>by rw[h] at lbs; simp at lbs; lia,∅,?_],hcn] lbs];rw[hnm];exact wU n12
def lM:FnScope ["_law_built","_law_marks_here","_law_told_here","_law_chain_here","_law_views","_law_frames"] ["_law_built","_law_marks_here"] (ai pq):=by walk_at "s"
def EK (T:Txt K mg t):FnOk P w K mg base CX0 1 t.zp t.Ad ["_law_built","_law_marks_here"] (E5 K):=by
 refine T.B1.F.ok lM (λvs H Q E h=>?_) (λcdv A outer s H vs Q E hr h=>?_)
 . let#[_,_,_,_,rfl,_]:=h;rfl
 . let#[b,bs,v,ms,rfl,hB,hv,hMs,q]:=h;show#[_,(aI (@aO _ _ 2 _ _ _ _ lM.nd rfl 0x0 (bD aD) 0x1 0x2) (aI (cK PassesOwn.never rfl (fe (aB 1)) (dC rfl (bP (aW (i:=3) lM.nd rfl 0x0) (bP (aW (i:=4) lM.nd rfl 0x0) dB))) (aI (@aO _ _ 5 _ _ _ _ lM.nd rfl 0x0 (eO jr 0x1 T.b_tuple ip ((eJ (N':=["_law_k","_law_row","_law_built"]) (js:=[none,none,some 0]) (by kernel_rfl) rfl (fe (aB 3)) (n6 (j2 (j2 nt))) (λ_ _ _ _=>(show PG _ _ (jt K 2 _) from dC (n:=2) rfl (bP (aW (i:=0) (show(["_law_k","_law_row","_law_built"]:List Str).Nodup by decide +kernel) rfl 0x0 (.inr rfl)) (bP (aW (i:=1) (show(["_law_k","_law_row","_law_built"]:List Str).Nodup by decide +kernel) rfl 0x0 (.inr rfl)) dB)))) (λ_ _ _ _=>cm) (λ_ _ _ _=>(aw ((aM 0x4 (aM 0x6 (aM 0x6 (aB 2) (aB 0) 0x5) aE 0x5) aE 0x5)>=>aB 1>=>aD))))>=>aD)) 0x1 0x2) (@aL _ _ _ (@cF _ _ _ _ (bu JN JQ JR cf (aB 2) ((aw (aB 5>=>(eJ (N':=["_law_places"]) (js:=[none]) (by kernel_rfl) rfl (fe (aB 4)) dJ (λ_ _ _ _=>(aW (i:=0) (show(["_law_places"]:List Str).Nodup by decide +kernel) rfl 0x0 (.inr rfl))) (λ_ _ _ _=>cm) (λ_ _ _ _=>(eO (show ay _ (.type "list") (Hv K) from lI) 0x1 T.b_list iX (aB 0>=>aD))))>=>aD))>=>aD)) 0x1)))) (~~~(aB 2)))),?_];let#[mA,us,rfl,hus,dus]:=cX hv;have lus:us.length=ms.length:=by rw[bS dus,J7]
   show#[c8,λl hl=>?_];show#[5,mA,rfl,#[_,(Same.new hl).seq hus],(let Jv1:Nat->St->Hp->Prop:=λi σ H2=>∃v3 v4 v5:JM V,σ=[⇑↥b,⇑↥mA,⇑↥l,v3,v4,v5]/\Same H H2/\∃ts,H2 l=⇑(.lst ts)/\DatAll K (ers l (nwL H H2)) ((ms.take i).map (eY (ca bs))) ts; m7 (xs:=us) Jv1 #[17,Same.new hl,[],aF,bK] ?_ ?_ ?_)]
   . rintro i σ H2 hi ⟨v3,v4,v5,rfl,s2,_⟩;exact s2.seq hus
   . rintro i y σ H2 hy ⟨v3,v4,v5,rfl,s2,ts,e2,d2⟩;have ilt:i<us.length:=(JF.mp hy).1;let#[m,hm,dm]:=gw dus hy;let#[pA,cv,wv,rfl,hpA,hcv,hwv]:=dE dm;let#[cA,cs,rfl,hcs,dcs]:=cX hcv;let#[wA,ws,rfl,hws,dws]:=cX hwv;have okm:=hMs.2.2 m (J9 hm);have lrl:(bh bs).length=bs.length:=by unfold bh b9; rw[J7,J7]
     have m3:=okm.l3;have lcs:cs.length=m.ch.length:=by rw[bS dcs,J7]
     have lws:ws.length=m.vs.length:=by rw[bS dws,J7]
     have lts:ts.length=i:=by
       rw[bS d2,J7,Jp]
       lia
     show#[pA,5,s2<*hpA,403,?_];show#[5,cA,rfl,#[_,s2.seq hcs],λu hu=>(let Jv2:Nat->List V->Hp->Prop:=λj acc H3=>Same H2 H3/\H3 u=⇑(.lst acc)/\DatAll K H3 ((m.ch.take j).map (g8 (ca bs))) acc; ie (xs:=cs) ∅ Jv2 #[Same.new hu,aF,bK] ?_ ?_ ?_)]
     . rintro j acc H3 hj ⟨s3,e3,d3⟩;show#[e3,?_,(s2\s3).seq hcs];rw[bS d3,J7,Jp]
       lia
     . rintro j y acc H3 hy' ⟨s3,e3,d3⟩;let#[c,hc,dc]:=gw dcs hy';let#[fA,y1,y2,rfl,hf,hy1,hy2]:=dE dc;cases g6 hy1;cases g6 hy2;obtain⟨x,hx⟩:∃x,bs[c.1]?=⇑x:=#[_,JA (by rw[<- lrl]; exact(okm.ix c (J9 hc)).1)]
       have hX:=hB.bt.all x (J9 hx);have nx:ca bs c.1=x.f.name:=gj (by rw[JC,hx]; rfl);have s03:=s2\s3;show#[fA,5,s03<*hf,403,?_];show#[21,b,35,s03.seq hB.bt.ls,bY (by rw[JC,hx]; rfl),x.e,35,s03.seq hX.en,bH,x.f.fa,35,s03<*hX.fn.fn,bH,5,bI,λp hp=>?_];have yp:=Same.new (o:=.tup [.str x.f.name,.int (c.2:Int)]) hp;show#[yp _ _ e3,(s3\yp).upd hu,aF,?_];refine DatAll.putT (iu (oN _) _) (yp _ _ e3) (qz (L2.DatAll.mono yp _ _ d3) hc ?_);unfold g8;rw[nx];exact cQ (aJ.of aF) (dQ _) (cx _)
     rintro acc H3 ⟨s3,e3,d3⟩;rw[lcs,Jh] at d3;show#[u,5,.inl #[aH.of e3,λtA htA=>?_]];have yt:=Same.new (o:=.tup acc) htA;have dT:DatV K (upd H3 tA (.tup acc)) (.tuple (m.ch.map (g8 (ca bs)))) ↥tA:=gP (aJ.of aF) (L2.DatAll.mono yt _ _ d3);have s24:=s3\yt;generalize upd H3 tA (.tup acc)=H4 at yt dT s24 ⊢;have e4:=s24 _ _ e2;have s04:=s2\s24;show#[5,.inl #[6,aH.of e4],21,wA,rfl,#[_,s04.seq hws],λw hw=>(let Jv3:Nat->List V->Hp->Prop:=λj acc H5=>Same H4 H5/\H5 w=⇑(.lst acc)/\DatAll K (ers l (nwL H (ers w H5))) ((m.vs.take j).map d7) acc; ie (xs:=ws) (by have:=okm.vl; lia) Jv3 #[Same.new hw,aF,bK] ?_ ?_ ?_)]
     . rintro j acc H5 hj ⟨s5,e5,d5⟩;show#[e5,?_,(s04\s5).seq hws];rw[bS d5,J7,Jp]
       lia
     . rintro j y acc H5 hy' ⟨s5,e5,d5⟩;let#[vw,hvw,dvw]:=gw dws hy';let#[aA,ys,rfl,hys,dys]:=cX dvw;have s05:=s04\s5;show#[5,aA,ys,rfl,.inl (s05.seq hys),λq hq=>?_];have yq:=Same.new (o:=.lst ys) hq;have e6:=yq _ _ e5;have el6:=yq _ _ (s5 _ _ e4);have nw:q≠w:=(aY e5 hq).symm;have nl:q≠l:=(aY (s5 _ _ e4) hq).symm;show#[e6,(s5\yq).upd hw,aF,?_];rw[dH];have fq:H q=none:=s05.free hq;have hwH:H w=none:=s04.free hw;refine qz (L2.DatAll.mono (Same.ers (Same.nwL (Same.ers yq))) _ _ d5) hvw (bO (aH.of (by rw[aU nl,eI fq,aU nw]; exact aF)) ?_);have s06:Same H (ers w (upd H5 q (.lst ys))):=gB (s05\yq) hwH;refine DatAll.ersT (.lst (ys:=ts) (by rw[eI hl,aU (aY e4 hw)]; exact el6)) _ _ (pC _) (DatAll.nwT s06 _ _ (pC _) (L2.DatAll.mono s06 _ _ dys))
     rintro acc H5 ⟨s5,e5,d5⟩;rw[lws,Jh] at d5;have el5:=s5 _ _ e4;show#[bI,λpT hpT=>?_];have yT:=Same.new (o:=.tup [↥tA,↥w]) hpT;have nT:pT≠l:=(aY el5 hpT).symm;have nWl:w≠l:=(aY e4 hw).symm;show#[l,19,yT _ _ el5,bj (n:=ts.length+1) (by have:=hMs.2.1; lia),17,((s04\s5).trans yT).upd hl,_,aF,?_];rw[lD];have s05:=s04\s5;have s0T:=s05\yT;have fT:H pT=none:=s05.free hpT;have fw:H w=none:=s04.free hw;refine qz (L2.DatAll.mono (Same.ers (Same.nwL ((s24\s5).trans yT))) _ _ d2) hm ?_;refine cQ (aJ.of (by rw[aU nT,eI fT]; exact aF)) (DatV.ersT (.lst (by rw[eI hl]; exact yT _ _ el5)) _ _ (rp _ _) (DatV.nwT s0T _ _ (rp _ _) (L2.DatV.mono (s5\yT) _ _ dT))) ?_;exact bO (aH.of (by rw[aU nWl,eI fw]; exact yT _ _ e5)) (L2.DatAll.mono (Same.ers (Same.nwL (bT\yT))) _ _ d5)
   . rintro σ H2 ⟨v3,v4,v5,rfl,s2,ts,e2,d2⟩;rw[lus,Jh] at d2;show#[5,q _ H2 s2 (bO (aH.of (by rw[eI hl]; exact e2)) (L2.DatAll.mono bT _ _ d2))]
def Fe:FnScope ["_law_built","_law_all_marks_here"] ["_law_built","_law_all_marks_here"] (ai nN):=by walk_at "s"
def HN (T:Txt K mg t):FnOk P w K mg base CX0 2 t.zo t.Ac ["_law_built","_law_all_marks_here"] (Eb K):=by
 have QQ:=EK (P:=P) (w:=w) (base:=base) T;refine T.qO.F.ok Fe (λvs H Q E h=>?_) (λcdv A outer s H vs Q E hr h=>?_)
 . let#[_,_,_,_,rfl,_]:=h;rfl
 . let#[b,bs,v,aT,rfl,hB,hv,lm,hok,q]:=h;show#[_,(aI (@aa _ _ _ _ (eJ (N':=["_law_k","_law_built","_law_all_marks_here"]) (js:=[none,some 0,some 1]) (by kernel_rfl) rfl (cW rfl T.b_range ((b6 0x3 0x1 T.b_len bR (aB 0>=>aD))>=>aD)) dJ (λ_ _ _ _=>(aW (i:=0) (show(["_law_k","_law_built","_law_all_marks_here"]:List Str).Nodup by decide +kernel) rfl 0x0 (.inr rfl))) (λ_ _ _ _=>cm) (λ_ _ _ _=>(aw ((aM 0x4 (aM 0x6 (aM 0x6 (aB 1) (aB 0) 0x5) aE 0x5) aE 0x5)>=>(aS T.B1 QQ 0xC (aB 1>=>(aM 0x6 (aB 2) (aB 0) 0x5)>=>aD))>=>aD))))) ax),?_];let#[aA,as,rfl,has,das]:=cX hv;have n12:=hB.bt.n12;have lb:(bs.map λx=>V.ref x.e).length=bs.length:=J7 _;show#[5,b,5,.inl hB.bt.ls,5,∅,∅,λT hT=>(let Jv1:Nat->List V->Hp->Prop:=λi acc H2=>Same H H2/\H2 T=⇑(.lst acc)/\acc.length=i/\∀(k:Nat) ms y,aT[k]?=⇑ms->acc[k]?=⇑y->DatV K (ers T (nwL H H2)) (fK (ca bs) (ca bs k,ms)) y; gG (lo:=0) (n:=List.length (List.map (λx:Bd=>V.ref x.e) bs)) ∅ Jv1 #[Same.new hT,aF,rfl,λk ms y _ h=>by cases h] ?_ ?_ ?_)]
   . rintro i acc H2 hi ⟨s2,e2,la,_⟩;show#[e2,∅]
   . rintro i acc H2 hi ⟨s2,e2,la,hd⟩;obtain⟨x,hx⟩:∃x,bs[i]?=⇑x:=#[_,JA ∅]
     obtain⟨ms,hmi⟩:∃ms,aT[i]?=⇑ms:=#[_,JA ∅]
     let#[ya,hya,dya]:=eK das hmi;have hX:=hB.bt.all x (J9 hx);have nx:ca bs i=x.f.name:=gj (by rw[JC,hx]; rfl);show#[21,b,35,s2.seq hB.bt.ls,(by rw[Ji]; exact bY (by rw[JC,hx]; rfl)),x.e,35,s2.seq hX.en,bH,x.f.fa,35,s2<*hX.fn.fn,bH,?_];show#[85,aA,35,s2.seq has,(by rw[Ji]; exact bY hya),b,bs,ya,ms,rfl,hB*>s2,L2.DatV.mono s2 _ _ dya,hok ms (J9 hmi),λu H3 s3 d3=>#[bI,λeA heA=>?_]];have y4:=Same.new (o:=.tup [.str x.f.name,u]) heA;have s24:=s3\y4;have e4:=s24 _ _ e2;have neT:eA≠T:=(aY (s3 _ _ e2) heA).symm;show#[e4,(s2\s24).upd hT,aF,by rw[JE,la]; rfl,λk ms' y hk hy=>?_];rw[lD];have feA:H eA=none:=(s2\s3).free heA;rcases mC hy with⟨_,hy⟩|⟨rfl,rfl⟩
     . exact L2.DatV.mono (Same.ers (Same.nwL s24)) _ _ (hd k ms' y hk hy)
     . rw[la] at hk ⊢;rw[hmi] at hk;cases hk;rw[nx];exact cQ (aJ.of (by rw[aU neT,eI feA]; exact aF)) (dQ _) (L2.DatV.mono ((qY s2 e2)\(Same.ers (Same.nwL y4))) _ _ d3)
   . rintro acc H2 ⟨s2,e2,la,hd⟩;exact q _ H2 s2 (ur (aH.of (by rw[eI hT]; exact e2)) ∅ λk ms x hk hx=>L2.DatV.mono bT _ _ (hd k ms x hk hx))
def Fu:FnScope ["_law_built","_law_base"] ["_law_built","_law_base"] (ai mz):=by walk_at "s"
def C8 (T:Txt K mg t):FnOk P w K mg base CX0 3 t.zn t.Ab ["_law_built","_law_base"] (DP K):=by
 have Qc:=tE (P:=P) (w:=w) (base:=base) T;refine T.B0.F.ok Fu (λvs H Q E h=>?_) (λcdv A outer s H vs Q E hr h=>?_)
 . let#[_,_,_,rfl,_]:=h;rfl
 . let#[b,bs,c,rfl,hB,q]:=h;show#[_,(aI (@aa _ _ _ _ (eJ (N':=["_law_k","_law_one","_law_base"]) (js:=[none,none,some 1]) (by kernel_rfl) rfl (p9 rfl T.b_enumerate (aB 0>=>aD)) (n6 (j2 (j2 nt))) (λ_ _ _ _=>(show PG _ _ (jt K 2 _) from dC (n:=2) rfl (bP (aW (i:=0) (show(["_law_k","_law_one","_law_base"]:List Str).Nodup by decide +kernel) rfl 0x0 (.inr rfl)) (bP (aW (i:=1) (show(["_law_k","_law_one","_law_base"]:List Str).Nodup by decide +kernel) rfl 0x0 (.inr rfl)) dB)))) (λ_ _ _ _=>cm) (λ_ _ _ _=>(bD (((show bc _ (binaryOp .Add) (yQ K) from GN)<$>(aw ((aS T.j5 Qc 0xC (aB 2>=>(aX fQ<$>aE<*>aB 0)>=>aD))>=>aD))<*>(kG (show fk _ (qP K) from Fb) (aM 0x6 (aB 1) aE 0x5) (gr aE) wR))>=>(aM 0x6 (aB 1) aE 0x5)>=>aD))))) ax),?_];have n12:=hB.bt.n12;have lb:(bs.map λx=>V.ref x.e).length=bs.length:=J7 _;show#[5,b,rfl,#[_,hB.bt.ls],λu hu=>(let Jv1:Nat->List V->Hp->Prop:=λi acc H2=>Same H H2/\H2 u=⇑(.lst acc)/\∃bs':List Bd,acc=(bs'.map λx=>V.ref x.e)/\(∀x∈bs',EntAt K (ers u H2) x)/\bs'.map (λx=>x.f.name)=((List.range i).map λj:Nat=>aj c (25 - (j:Int)))/\(bs'.map λx=>x.f.rs)=((bs.take i).map λx=>x.f.rs)/\(bs'.map λx=>F2.nms x.f)=((bs.take i).map λx=>F2.nms x.f)/\∀x∈bs',x.cnt=(F2.nms x.f).length; F5 (xs:=bs.map λx=>V.ref x.e) ∅ Jv1 #[Same.new hu,aF,[],rfl,(λx hx=>by cases hx),15,λx hx=>by cases hx] ?_ ?_ ?_)]
   . rintro i acc H2 hi ⟨s2,e2,bs',rfl,_,hb,_,_,_⟩;have:=Jj List.length hb;rw[J7,J7,JY] at this;show#[e2,by rw[J7,this]; exact JG _,s2.seq hB.bt.ls]
   . rintro i y acc H2 p hy ⟨s2,e2,bs',rfl,hall,hb,hc,hc2,hc3⟩ hp;let#[x,hx,hxm,rfl]:=j0 hy;have hX:=hB.bt.all x hxm;have s3:=Same.new (o:=.tup [.int i,↥x.e]) hp;show#[p,5,aJ.of aF,403,?_];have e3:=s3 _ _ e2;generalize upd H2 p (.tup [.int i,↥x.e])=H3 at s3 e3 ⊢;have s03:=s2\s3;show#[339,c,25 - (i:Int),rfl,λH4 s4=>#[ci,λt1 ht1=>?_]];have y1:=Same.new (o:=.tup [.str (aj c (25 - (i:Int)))]) ht1;have s14:=s4\y1;have s0:=s03\s14;show#[5,x.e,35,s0.seq hX.en,bH,5,ET (s0<*hX.fn.fn) λt2 H5 s5 h5=>?_];have nk:=jg c (25 - (i:Int));have ec:fV [V.str x.f.name,x.f.fo,↥x.f.pa,↥x.f.ra] (some 1) none=[x.f.fo,↥x.f.pa,↥x.f.ra]:=rfl;rw[ec] at h5;show#[t1,t2,19,s5<*(aJ.of aF),h5,0xB,oU,(λh=>by cases h),λ_ fa hfa=>?_];have y6:=Same.new (o:=.tup ([V.str (aj c (25 - (i:Int)))]++[x.f.fo,↥x.f.pa,↥x.f.ra])) hfa;have s06:=(s0\s5).trans y6;have hfT:aJ K (upd H5 fa (.tup ([V.str (aj c (25 - (i:Int)))]++[x.f.fo,↥x.f.pa,↥x.f.ra]))) fa [V.str (aj c (25 - (i:Int))),x.f.fo,↥x.f.pa,↥x.f.ra]:=aJ.of aF;have e6:=y6 _ _ (s5 _ _ (s14 _ _ e3));generalize upd H5 fa (.tup ([V.str (aj c (25 - (i:Int)))]++[x.f.fo,↥x.f.pa,↥x.f.ra]))=H6 at y6 s06 hfT e6 ⊢;show#[5,x.e,35,s06.seq hX.en,rfl,bI,λe he=>?_];have y7:=Same.new (o:=.lst [↥fa,.int x.cnt]) he;have s36:Same H3 H6:=(s14\s5).trans y6;have e7:=y7 _ _ e6;have ne:e≠u:=(aY e6 he).symm;have hX7:=hX*>(s06\y7);have eE:=aF (H:=H6) (a:=e) (o:=.lst [↥fa,.int x.cnt]);show#[e7,((s2\(s3\s36)).trans y7).upd hu,aF,bs'++[#[#[aj c (25 - (i:Int)),x.f.fo,fa,x.f.pa,x.f.ra,x.f.ps,x.f.rs,x.f.ds],x.cnt,e]],(by rw[JB]; rfl),λz hz=>?_,?_,?_,?_,λz hz=>?_]
     . rw[dH];rcases JZ.mp hz with h|h
       . exact(hall z h).mono (Same.ers ((s3\s36).trans y7))
       . rw[JK.mp h];exact tU (x:=#[#[aj c (25 - (i:Int)),x.f.fo,fa,x.f.pa,x.f.ra,x.f.ps,x.f.rs,x.f.ds],x.cnt,e]) #[aH.of eE,Fy hX7 (y7<*hfT),hX7.hd,hX.ne,hX.cn,nk.2,hX7.dr] e7 eE ne
     . rw[JB,hb,Jy,JB];rfl
     . rw[JB,hc,Jr,hx,JB];rfl
     . rw[JB,hc2,Jr,hx,JB];rfl
     . rcases JZ.mp hz with h|h
       . exact hc3 z h
       . rw[JK.mp h]; exact hB.cn x hxm
   . rintro acc H2 ⟨s2,e2,bs',rfl,hall,hb,hc,hc2,hc3⟩;rw[lb] at hb hc hc2;have hlen:bs'.length=bs.length:=by have:=Jj List.length hb;rwa [J7,J7,JY] at this
     rw[Jh] at hc hc2;refine q u bs' H2 s2 #[#[aH.of e2,λx hx=>(hall x hx)*>bT,λh=>hB.bt.n0 (KF.mp (by rw[<- hlen,h]; rfl)),∅,?_],hc3] hlen ?_ ?_
     . rw[hb];exact IA n12
     . have:=Jj (List.map List.length) hc;rw[Jm,Jm] at this;unfold bh b9;rw[Jm,Jm];exact this
     . funext k;have:(bs'.map λx=>F2.nms x.f)[k]?=(bs.map λx=>F2.nms x.f)[k]?:=by rw[hc2]
       rw[JC,JC] at this;unfold dW cE;rw[JC,JC];cases e1:bs'[k]? with
       | none=>rw[e1] at this; cases e2:bs[k]? with|none=>rfl|some y=>rw[e2] at this; cases this
       | some x=>rw[e1] at this; cases e2:bs[k]? with|none=>rw[e2] at this; cases this|some y=>rw[e2] at this; exact Jj List.length (Option.some.inj this)
def xK:FnScope ["_law_found","_law_due"] ["_law_found","_law_due"] (ai pw):=by walk_at "s"
def vm (T:Txt K mg t):∀n,FnOk P w K mg base CX0 (n+1) t.qA t.qI ["_law_found","_law_due"] (sZ K n)
| 0=>T.mL.F.ok xK (λvs H Q E h=>by let#[d,u,v,m,rfl,hd,hp,du,dv,q]:=h; exact absurd hd (Js _)) (λcdv A outer s H vs Q E hr h=>by let#[d,u,v,m,rfl,hd,hp,du,dv,q]:=h; exact absurd hd (Js _))
| n+1=>by
 have Qm:FnOk P w K mg base CX0 (n+1) t.qA t.qI ["_law_found","_law_due"] (sZ K n):=vm T n;refine T.mL.F.ok xK (λvs H Q E h=>?_) (λcdv A outer s H vs Q E hr h=>?_)
 . let#[_,_,_,_,rfl,_]:=h;rfl
 . let#[d,u,v,m,rfl,hd,hp,du,dv,q]:=h;show#[_,(aI (al (n9 (t9 (aB 1))) (~~~(F' (t9 (aB 0)))) ax) (aI (al (fJ (b6 iZ 0x1 T.b_isinstance iJ (aB 1>=>(iT (v:=V.ty "list") rfl T.b_list iX rfl)>=>aD))) (aI (al (@PW.pt _ _ _ (jm (kU (fJ (b6 iZ 0x1 T.b_isinstance iJ (aB 0>=>(iT (v:=V.ty "list") rfl T.b_list iX rfl)>=>aD)))) (kq (aq rN (b6 0x3 0x1 T.b_len bR (aB 0>=>aD)) (b6 0x3 0x1 T.b_len bR (aB 1>=>aD)) (ac _))))) (~~~gC) ax) (~~~(b6 (sI rfl) 0x1 T.b_all qS ((eJ (N':=["_law_k","_law_found","_law_due"]) (js:=[none,some 0,some 1]) (by kernel_rfl) rfl (cW rfl T.b_range ((b6 0x3 0x1 T.b_len bR (aB 1>=>aD))>=>aD)) dJ (λ_ _ _ _=>(aW (i:=0) (show(["_law_k","_law_found","_law_due"]:List Str).Nodup by decide +kernel) rfl 0x0 (.inr rfl))) (λ_ _ _ _=>cm) (λ_ _ _ _=>(aS T.mL Qm (hr.mono ∅) ((aM (show aN _ (lS K) from pW) (aB 1) (aB 0) 0x5)>=>(aM (show aN _ (lS K) from pW) (aB 2) (aB 0) 0x5)>=>aD))))>=>aD)))) ax) (aI (al (fJ (b6 iZ 0x1 T.b_isinstance iJ (aB 1>=>(iT (v:=V.ty "tuple") rfl T.b_tuple ip rfl)>=>aD))) (aI (al (@PW.pt _ _ _ (jm (kU (fJ (b6 iZ 0x1 T.b_isinstance iJ (aB 0>=>(iT (v:=V.ty "tuple") rfl T.b_tuple ip rfl)>=>aD)))) (kq (aq rN (b6 0x3 0x1 T.b_len bR (aB 0>=>aD)) (b6 0x3 0x1 T.b_len bR (aB 1>=>aD)) (ac _))))) (~~~gC) ax) (~~~(b6 (sI rfl) 0x1 T.b_all qS ((eJ (N':=["_law_k","_law_found","_law_due"]) (js:=[none,some 0,some 1]) (by kernel_rfl) rfl (cW rfl T.b_range ((b6 0x3 0x1 T.b_len bR (aB 1>=>aD))>=>aD)) dJ (λ_ _ _ _=>(aW (i:=0) (show(["_law_k","_law_found","_law_due"]:List Str).Nodup by decide +kernel) rfl 0x0 (.inr rfl))) (λ_ _ _ _=>cm) (λ_ _ _ _=>(aS T.mL Qm (hr.mono ∅) ((aM (show aN _ (lS K) from pW) (aB 1) (aB 0) 0x5)>=>(aM (show aN _ (lS K) from pW) (aB 2) (aB 0) 0x5)>=>aD))))>=>aD)))) ax) (aI (al (fJ (b6 iZ 0x1 T.b_isinstance iJ (aB 1>=>(iT (v:=V.ty "int") rfl T.b_int lB rfl)>=>aD))) (~~~(pe (b6 iZ 0x1 T.b_isinstance iJ (aB 0>=>(iT (v:=V.ty "int") rfl T.b_int lB rfl)>=>aD)) (pe (DV (b6 iZ 0x1 T.b_isinstance iJ (aB 0>=>(iT (v:=V.ty "bool") rfl T.b_bool Iq rfl)>=>aD))) (sQ (gg bq (aB 0) (aB 1) (ac _)))))) ax) (~~~(pe (b6 iZ 0x1 T.b_isinstance iJ (aB 0>=>(iT (v:=V.ty "str") rfl T.b_str z8 rfl)>=>aD)) (sQ (gg bq (aB 0) (aB 1) (ac _))))))))),?_];cases hp with
   | non n' =>
     cases tR du;cases tR dv;show#[21,az rfl #[5,q H (Same.refl _)]]
   | int n' z =>
     cases g6 du;cases g6 dv;show#[21,au JP ?_];show#[10,"list",_,false,rfl,.of (.int _),13, au JP ?_];show#[10,"tuple",_,false,rfl,.of (.int _),13, au JP ?_];show#[10,"int",_,true,rfl,.of (.int _),13, az rfl ?_];show#[10,"int",_,true,rfl,.of (.int _),13, az rfl ?_];show#[10,"bool",_,false,rfl,.of (.int _),53,az rfl ?_];show#[43,vq (Jj V.bl (Jg rfl)) (q H (Same.refl _))]
   | str n' z =>
     cases ft du;cases ft dv;show#[21,au JP ?_];show#[10,"list",_,false,rfl,.of (.str _),13, au JP ?_];show#[10,"tuple",_,false,rfl,.of (.str _),13, au JP ?_];show#[10,"int",_,false,rfl,.of (.str _),13, au JP ?_];show#[10,"str",_,true,rfl,.of (.str _),13, az rfl ?_];show#[43,vq (Jj V.bl (Jg rfl)) (q H (Same.refl _))]
   | @lst m' ds hl hds =>
     let#[a,xs,rfl,hxs,dxs]:=cX du;let#[b,ys,rfl,hys,dys]:=cX dv;show#[21,au JP ?_];show#[10,"list",_,true,rfl,.lst hys,13, az rfl ?_];have lx:xs.length=ds.length:=bS dxs;have ly:ys.length=ds.length:=bS dys;show#[10,"list",_,true,rfl,.lst hxs,13, iN #[5,a,5,.inl hxs,5,b,5,.inl hys,13,au (by rw[lx,ly]; simp) ?_]];show#[5,b,5,.inl hys,5,∅,∅,λp hp'=>(let Jv1:Nat->List V->Hp->Prop:=λi acc H2=>Same H H2/\H2 p=⇑(.lst acc)/\acc=(List.replicate i true).map V.bl; gG (lo:=0) (n:=ys.length) ∅ Jv1 #[Same.new hp',aF,rfl] ?_ ?_ ?_)]
     . rintro i acc H2 hi ⟨s2,e2,rfl⟩;show#[e2,by rw[J7,KP]; exact JG _]
     . rintro i acc H2 hi ⟨s2,e2,rfl⟩;obtain⟨d,hdi⟩:∃d,ds[i]?=⇑d:=#[_,JA ∅]
       let#[x,hx,dx]:=jF dxs hdi;let#[y,hy,dy]:=jF dys hdi;show#[21,.inl #[a,35,s2.seq hxs,(by rw[Ji]; exact bY hx),?_]];show#[21,.inl #[b,35,s2.seq hys,(by rw[Ji]; exact bY hy),d,x,y,m',rfl,∅,hds d (J9 hdi),DatV.mono s2 _ _ dx,DatV.mono s2 _ _ dy,λH3 s3=>#[s3 _ _ e2,(s2\s3).upd hp',aF,?_]]];rw[List.replicate_succ',JB];rfl
     . rintro acc H2 ⟨s2,e2,rfl⟩;show#[p,5,aH.of e2,?_];rw[show(List.replicate ys.length true).all id=true by simp];exact q H2 s2
   | @tup m' ds hl hds =>
     let#[a,xs,rfl,hxs,dxs]:=gq du;let#[b,ys,rfl,hys,dys]:=gq dv;show#[21,au JP ?_];show#[10,"list",_,false,rfl,.tup hys,13, au JP ?_];show#[10,"tuple",_,true,rfl,.tup hys,13, az rfl ?_];have lx:xs.length=ds.length:=bS dxs;have ly:ys.length=ds.length:=bS dys;show#[10,"tuple",_,true,rfl,.tup hxs,13, iN #[5,a,5,.inr hxs,5,b,5,.inr hys,13,au (by rw[lx,ly]; simp) ?_]];show#[5,b,5,.inr hys,5,∅,∅,λp hp'=>(let Jv2:Nat->List V->Hp->Prop:=λi acc H2=>Same H H2/\H2 p=⇑(.lst acc)/\acc=(List.replicate i true).map V.bl; gG (lo:=0) (n:=ys.length) ∅ Jv2 #[Same.new hp',aF,rfl] ?_ ?_ ?_)]
     . rintro i acc H2 hi ⟨s2,e2,rfl⟩;show#[e2,by rw[J7,KP]; exact JG _]
     . rintro i acc H2 hi ⟨s2,e2,rfl⟩;obtain⟨d,hdi⟩:∃d,ds[i]?=⇑d:=#[_,JA ∅]
       let#[x,hx,dx]:=jF dxs hdi;let#[y,hy,dy]:=jF dys hdi;show#[21,.inr #[a,35,s2<*hxs,(by rw[Ji]; exact bY hx),?_]];show#[21,.inr #[b,35,s2<*hys,(by rw[Ji]; exact bY hy),d,x,y,m',rfl,∅,hds d (J9 hdi),DatV.mono s2 _ _ dx,DatV.mono s2 _ _ dy,λH3 s3=>#[s3 _ _ e2,(s2\s3).upd hp',aF,?_]]];rw[List.replicate_succ',JB];rfl
     . rintro acc H2 ⟨s2,e2,rfl⟩;show#[p,5,aH.of e2,?_];rw[show(List.replicate ys.length true).all id=true by simp];exact q H2 s2
def fS:FnScope ["_law_found","_law_due","_law_many","_law_name_here","_law_marks_here","_law_chain_here","_law_views","_law_places","_law_k","_law_j","_law_level"] ["_law_found","_law_due"] (ai mX):=by walk_at "s"
def Bb (T:Txt K mg t):FnOk P w K mg base CX0 1 t.zb t.AO ["_law_found","_law_due"] (CQ K):=by
 refine T.Ar.F.ok fS (λvs H Q E h=>?_) (λcdv A outer s H vs Q E hr h=>?_)
 . let#[_,_,_,_,_,_,rfl,_]:=h;rfl
 . let#[Ta,v,es,bs,nm,H0,rfl,hF,hN,s0,dd,l12,hok,rl,q]:=h;show#[_,(aI (@aO _ _ 2 _ _ _ _ fS.nd rfl 0x0 aE 0x1 0x2) (aI (cK PassesOwn.never rfl (fe (aB 0)) (dC rfl (bP (aW (i:=3) fS.nd rfl 0x0) (bP (aW (i:=4) fS.nd rfl 0x0) dB))) (@aL _ _ _ (cK PassesOwn.never rfl (fe (aB 4)) (dC rfl (bP (aW (i:=5) fS.nd rfl 0x0) (bP (aW (i:=6) fS.nd rfl 0x0) dB))) (@aL _ _ _ (cK PassesOwn.never rfl (fe (aB 6)) (aW (i:=7) fS.nd rfl 0x0) (aI (@cF _ _ _ _ (bu JN JQ JR cf (aB 7) (aB 2>=>aD)) 0x1) (@aL _ _ _ (@aO _ _ 2 _ _ _ _ fS.nd rfl 0x0 (aX bL<$>aB 2<*>aE) 0x1 0x2)))))))) (aI (@aO _ _ 2 _ _ _ _ fS.nd rfl 0x0 aE 0x1 0x2) (aI (cK PassesOwn.never rfl (cW rfl T.b_range ((b6 0x3 0x1 T.b_len bR (aB 1>=>aD))>=>aD)) (aW (i:=8) fS.nd rfl 0x0) (@aL _ _ _ (cK PassesOwn.never rfl (cW rfl T.b_range ((b6 0x3 0x1 T.b_len bR ((aM 0x4 (aM 0x6 (aB 1) (aB 8) 0x5) aE 0x5)>=>aD))>=>aD)) (aW (i:=9) fS.nd rfl 0x0) (aI (@aO _ _ 6 _ _ _ _ fS.nd rfl 0x0 (aM 0x4 (aM 0x6 (aM 0x4 (aM 0x6 (aB 0) (aB 8) 0x5) aE 0x5) (aB 9) 0x5) aE 0x5) 0x1 0x2) (@aL _ _ _ (cK PassesOwn.never rfl (cW rfl T.b_range ((b6 0x3 0x1 T.b_len bR (aB 6>=>aD))>=>aD)) (aW (i:=10) fS.nd rfl 0x0) (aI (al (aq (i4 hr.units) (aM 0x6 (aB 6) (aB 10) 0x5) (IQ<$>(aM 0x6 (aM 0x4 (aM 0x6 (aM 0x4 (aM 0x6 (aB 1) (aB 8) 0x5) aE 0x5) (aB 9) 0x5) aE 0x5) (aB 10) 0x5)<*>(bD (aB 2>=>aD))) (ac _)) (~~~gC) ax) (@aL _ _ _ (@aO _ _ 2 _ _ _ _ fS.nd rfl 0x0 (aX bL<$>aB 2<*>aE) 0x1 0x2))))))))) (~~~gC))))),?_];have hvw:=hF.vw;have hwl:∀w∈fL es,H w.p=⇑(.lst w.xs):=λw hw=>(hvw w hw).1;have ndP:((fL es).map (·.p)).Nodup:=(LU.mp hN.nd).2.1;have fit:∀en∈es,1<=en.ms.length/\en.ms.length<=200/\∀m∈en.ms,MFit (bh bs) (dW bs) m.mk':=λen he=>by let#[h1,h2,h3]:=hok (en.ms.map Ma.mk') (JW.mpr #[en,he,rfl]);rw[J7] at h1 h2;show#[h1,h2,λm hm=>h3 _ (JW.mpr #[m,hm,rfl])]
   have okw:∀en∈es,∀m∈en.ms,m.ws.length<=3/\∀w∈m.ws,w.xs.length=w.pl.length/\w.pl.length<=24/\∀o∈w.pl,cS o:=λen he m hm=>by
     have hf:=(fit en he).2.2 m hm;have hk:=hf.mok rl;have lv:m.ws.length=m.ch.length:=by have:=hf.vl; unfold Ma.mk' at this; rw[J7] at this; exact this
     show#[by have:=hf.l3; show m.ws.length<=3; rw[lv]; exact this,λw hw=>?_];have hin:w.pl∈m.mk'.vs:=JW.mpr #[w,hw,rfl];have hx:=(hvw w (Jw.mpr #[en,he,Jw.mpr #[m,hm,hw]])).2;show#[by rw[bS hx,J7],hk.c24 _ hin,hk.ok _ hin]
   show#[5,Ta,rfl,#[_,aH.of hF.ls],(let Jv1:Nat->St->Hp->Prop:=λi σ G=>∃(v3 v4 v5 v6 v7:JM V),σ=[⇑↥Ta,⇑v,⇑(.int (nE es i:Nat)),v3,v4,v5,v6,v7,none,none,none]/\Apd H (fL es) (nE es i) G; m7 (xs:=es.map λe=>V.ref e.e) Jv1 #[65,Apd.zero hwl] ?_ ?_ ?_)]
   . rintro i σ G hi ⟨v3,v4,v5,v6,v7,rfl,aG⟩;exact aH.of (hF.con aG hN.nd).1
   . rintro i y σ G hy ⟨v3,v4,v5,v6,v7,rfl,aG⟩;let#[en,hen,hem,rfl]:=j0 hy;let#[c1,c2,c3]:=(hF.con aG hN.nd).2 i en hen;show#[en.e,5,c1,403,?_];show#[5,en.l,rfl,#[_,aH.of c2],(let Jv2:Nat->St->Hp->Prop:=λj σ G=>∃(v5 v6 v7:JM V),σ=[⇑↥Ta,⇑v,⇑(.int (nE es i+nM en.ms j:Nat)),⇑(.str (nm i)),⇑↥en.l,v5,v6,v7,none,none,none]/\Apd H (fL es) (nE es i+nM en.ms j) G; m7 (xs:=en.ms.map λm=>V.ref m.a) Jv2 #[17,aG] ?_ ?_ ?_)]
     . rintro j σ G2 hj ⟨v5,v6,v7,rfl,aG2⟩;exact aH.of ((hF.con aG2 hN.nd).2 i en hen).2.1
     . rintro j y σ G2 hy2 ⟨v5,v6,v7,rfl,aG2⟩;let#[m,hmj,hmm,rfl]:=j0 hy2;let#[d1,d2]:=((hF.con aG2 hN.nd).2 i en hen).2.2 m hmm;show#[m.a,5,d1,403,?_];show#[5,m.va,rfl,#[_,aH.of d2],(let Jv3:Nat->St->Hp->Prop:=λl σ G=>∃(v7:JM V),σ=[⇑↥Ta,⇑v,⇑(.int (nE es i+(nM en.ms j+l):Nat)),⇑(.str (nm i)),⇑↥en.l,⇑↥m.cA,⇑↥m.va,v7,none,none,none]/\Apd H (fL es) (nE es i+(nM en.ms j+l)) G; m7 (xs:=m.ws.map λw=>V.ref w.p) Jv3 #[5,aG2] ?_ ?_ ?_)]
       . rintro l σ G3 hl3 ⟨v7,rfl,aG3⟩;exact aH.of (((hF.con aG3 hN.nd).2 i en hen).2.2 m hmm).2
       . rintro l y σ G3 hy3 ⟨v7,rfl,aG3⟩;let#[w,hwl',hwm,rfl]:=j0 hy3;have hW:=yy hen hmj hwl';have e3:=aG3.ws _ w hW;rw[JI (Ju _)] at e3;have okk:=(okw en hem m hmm).2 w hwm;show#[5,.inl #[6,aH.of e3],5,w.p,19,e3,bj (n:=w.xs.length+1) ∅,?_];show#[333,aG3.succ ndP hW]
       . rintro σ G3 ⟨v7,rfl,aG3⟩;rw[J7,<- yr hmj] at aG3 ⊢;show#[17,aG3]
     . rintro σ G2 ⟨v5,v6,v7,rfl,aG2⟩;rw[J7,<- uw hen] at aG2 ⊢;show#[65,aG2]
   rintro σ G ⟨v3,v4,v5,v6,v7,rfl,aG⟩;rw[J7] at aG ⊢;let#[c1,c2]:=hF.con aG hN.nd;have sG0:Same H0 G:=λb o hb=>aG.kp b o (s0 b o hb) λz=>by have:=hN.nw b (Jk _ z);rw[hb] at this;cases this
   let#[dA,ds,rfl,hds,dds]:=cX dd;have lms:(aT es).length=es.length:=J7 _;have lds:ds.length=es.length:=by rw[bS dds,J7,le,lms]
   show#[5,dA,5,.inl (sG0.seq hds),5,∅,∅,?_];refine(let Jv4:Nat->St->Hp->Prop:=λi σ G'=>∃(v3 v4 v5 v6 v7 v8 v9 v10:JM V),σ=[⇑↥Ta,⇑↥dA,⇑(.int (nE es i:Nat)),v3,v4,v5,v6,v7,v8,v9,v10]/\Same G G'; fO (lo:=0) (n:=ds.length) Jv4 #[513,Same.refl _] ?_ ?_)
   . rintro i σ G1 hi ⟨v3,v4,v5,v6,v7,v8,v9,v10,rfl,s1⟩;obtain⟨en,hen⟩:∃en,es[i]?=⇑en:=#[_,JA ∅]
     have hem:=J9 hen;let#[x,hx,dx]:=eK dds (sX (nm:=nm) (show(aT es)[i]?=⇑(en.ms.map Ma.mk') by unfold aT; rw[JC,hen]; rfl));let#[eA,x1,x2,rfl,hE,hx1,hx2]:=dE dx;let#[lA,us,rfl,hus,dus]:=cX hx2;have lus:us.length=en.ms.length:=by rw[bS dus,J7,J7]
     have l200:=(fit en hem).2.1;let#[d1,d2,d3]:=c2 i en hen;have s01:=sG0\s1;show#[21,dA,35,s01.seq hds,(by rw[Ji]; exact bY hx),eA,35,s01<*hE,rfl,lA,5,.inl (s01.seq hus),5,∅,∅,?_];refine(let Jv5:Nat->St->Hp->Prop:=λj σ G'=>∃(v3 v4 v5 v6 v7 v9 v10:JM V),σ=[⇑↥Ta,⇑↥dA,⇑(.int (nE es i+nM en.ms j:Nat)),v3,v4,v5,v6,v7,⇑(.int (0+(i:Int))),v9,v10]/\Same G G'; fO (lo:=0) (n:=us.length) Jv5 #[257,s1] ?_ ?_)
     . rintro j σ G2 hj ⟨v3,v4,v5,v6,v7,v9,v10,rfl,s2⟩;obtain⟨m,hmj⟩:∃m,en.ms[j]?=⇑m:=#[_,JA ∅]
       have hmm:=J9 hmj;let#[y,hy,dy]:=eK dus (show(en.ms.map Ma.mk')[j]?=⇑m.mk' by rw[JC,hmj]; rfl);let#[mA,y1,y2,rfl,hM,hy1,hy2]:=dE dy;let#[wA,ws',rfl,hws,dws]:=cX hy2;let#[f1,f2]:=d3 m hmm;have l3:=(okw en hem m hmm).1;show#[21,Ta,35,aH.of (s2 _ _ c1),(by rw[Ji]; exact bY (by rw[JC,hen]; rfl)),en.e,35,s2<*d1,13,en.l,35,aH.of (s2 _ _ d2),(by rw[Ji]; exact bY (by rw[JC,hmj]; rfl)),m.a,35,s2<*f1,rfl,?_];show#[5,m.va,5,.inl (aH.of (s2 _ _ f2)),5,(by rw[J7]; lia),(by rw[J7]; lia),?_];refine(let Jv6:Nat->St->Hp->Prop:=λl σ G'=>∃(v3 v4 v5 v7 v10:JM V),σ=[⇑↥Ta,⇑↥dA,⇑(.int (nE es i+(nM en.ms j+l):Nat)),v3,v4,v5,⇑↥m.va,v7,⇑(.int (0+(i:Int))),⇑(.int (0+(j:Int))),v10]/\Same G G'; fO (lo:=0) (n:=(List.map (λw:Ua.Vw=>V.ref w.p) m.ws).length) Jv6 #[65,s2] ?_ ?_)
       . rintro l σ G3 hl3 ⟨v3,v4,v5,v7,v10,rfl,s3⟩;rw[J7] at hl3;obtain⟨w,hwl'⟩:∃w,m.ws[l]?=⇑w:=#[_,JA hl3]
         have hwm:=J9 hwl';have hW:=yy hen hmj hwl';have lt:nE es i+(nM en.ms j+l)<nE es es.length:=by have:=(JF.mp hW).1;unfold nE;rw[Jh];exact this
         have e3:=aG.ws _ w hW;rw[JJ lt] at e3;let#[xl,p24,pk]:=(okw en hem m hmm).2 w hwm;let#[z,hz,dz]:=eK dws (show m.mk'.vs[l]?=⇑w.pl by show(m.ws.map (·.pl))[l]?=_; rw[JC,hwl']; rfl);let#[pA,ys,rfl,hys,dys]:=cX dz;have lys:ys.length=w.pl.length:=by rw[bS dys,J7]
         have s03:=sG0\s3;show#[21,m.va,35,aH.of (s3 _ _ f2),(by rw[Ji]; exact bY (by rw[JC,hwl']; rfl)),?_];show#[21,dA,35,s03.seq hds,(by rw[Ji]; exact bY hx),eA,35,s03<*hE,13,lA,35,s03.seq hus,(by rw[Ji]; exact bY hy),mA,35,s03<*hM,13,wA,35,s03.seq hws,(by rw[Ji]; exact bY hz),5,ci,λq1 hq1=>?_];have y1:=Same.new (o:=.lst [V.int (nE es i+(nM en.ms j+l):Nat)]) hq1;show#[pA,q1,19,(s03\y1).seq hys,aH.of aF,bj (n:=ys.length+1) ∅,λq2 hq2=>?_];have y2:=Same.new (o:=.lst (ys++[V.int (nE es i+(nM en.ms j+l):Nat)])) hq2;have y12:=y1\y2;have e2:upd (upd G3 q1 (.lst [V.int (nE es i+(nM en.ms j+l):Nat)])) q2 (.lst (ys++[V.int (nE es i+(nM en.ms j+l):Nat)])) q2=_:=aF;generalize upd (upd G3 q1 (.lst [V.int (nE es i+(nM en.ms j+l):Nat)])) q2 (.lst (ys++[V.int (nE es i+(nM en.ms j+l):Nat)]))=G4 at y12 e2 ⊢;have tG:Same (tl H) G4:=((aG.tl hwl)\kR).trans (s3\y12);refine jR (n:=9) (d:=.list (w.pl.map bE++[.int (nE es i+(nM en.ms j+l):Nat)])) #[] (ag.list λd hd=>?_) (bO (aH.of ((s3\y12) _ _ e3)) (dZ (DatAll.mono tG _ _ (hvw w (J9 hW)).2) (cx _))) (bO (aH.of e2) (dZ (DatAll.mono (s03\y12) _ _ dys) (cx _))) #[5,au JP #[5313,s3\y12]];rcases JZ.mp hd with h|h
         . let#[o,ho,rfl]:=JW.mp h;exact je (pk o ho)
         . rw[JK.mp h]; exact ag.int _
       . rintro σ G3 ⟨v3,v4,v5,v7,v10,rfl,s3⟩;rw[J7,<- yr hmj];show#[257,s3]
     . rintro σ G2 ⟨v3,v4,v5,v6,v7,v9,v10,rfl,s2⟩;rw[lus,<- uw hen];show#[513,s2]
   . rintro σ G1 ⟨v3,v4,v5,v6,v7,v8,v9,v10,rfl,s1⟩;exact q G1 _ (aG*>s1)
def eW:FnScope ["_law_script","_law_big","_law_built","_law_all_marks_here","_law_many","_law_cells","_law_program_here","_law_handed","_law_rows","_law_kept","_law_due","_law_found","_law_other"] ["_law_script"] (ai m5):=by walk_at "s"
def ok_law (T:Txt K mg t):FnOk P w K mg base CX0 36 t.zq t.qL ["_law_script"] (sp_law K):=by
 have QR:=Dx (P:=P) (w:=w) (base:=base) T;have QS:=Gf (P:=P) (w:=w) (base:=base) T;have QT:=GP (P:=P) (w:=w) (base:=base) T;have Qs:=HN (P:=P) (w:=w) (base:=base) T;have Qn:=FG (P:=P) (w:=w) (base:=base) T;have QU:=C8 (P:=P) (w:=w) (base:=base) T;have QV:=Ej (P:=P) (w:=w) (base:=base) T;have QW:=CG (P:=P) (w:=w) (base:=base) T;have Qb:=og (P:=P) (w:=w) (base:=base) T;have QX:=Bb (P:=P) (w:=w) (base:=base) T;have Qm:FnOk P w K mg base CX0 31 t.qA t.qI ["_law_found","_law_due"] (sZ K 30):=vm T 30;refine T.law.F.ok eW (λvs H Q E h=>?_) (λcdv A outer s H vs Q E hr h=>?_)
 . let#[_,_,rfl,_]:=h;rfl
 . let#[a,ns,rfl,hS,hl,q]:=h;show#[_,(@aI _ _ _ _ _ (@aO _ _ 1 _ _ _ _ eW.nd rfl 0x0 (gg bq (aZ c9<$>(aS T.fN Qb 0xC (@ae _ _ _ _ _ (aB 0) (@ae _ _ _ _ _ aE aD 0x1) 0x1))<*>aE) aE (ac _)) 0x1 0x2) (@aI _ _ _ _ _ (@aO _ _ 2 _ _ _ _ eW.nd rfl 0x0 (aS T.A' QR 0xC (@ae _ _ _ _ _ (aB 0) (@ae _ _ _ _ _ (aB 1) aD 0x1) 0x1)) 0x1 0x2) (@aI _ _ _ _ _ (@aO _ _ 3 _ _ _ _ eW.nd rfl 0x0 (aS T.Aq QS 0xC (@ae _ _ _ _ _ (aB 0) (@ae _ _ _ _ _ (aB 2) (@ae _ _ _ _ _ (aB 1) aD 0x1) 0x1) 0x1)) 0x1 0x2) (@fX _ _ _ _ _ (@al _ _ _ _ _ _ _ _ (@aq _ _ _ _ _ _ _ _ bq (aZ c9<$>(aS T.fN Qb 0xC (@ae _ _ _ _ _ (aB 0) (@ae _ _ _ _ _ aE aD 0x1) 0x1))<*>aE) aE (ac _)) (@aI _ _ _ _ _ (@aO _ _ 4 _ _ _ _ eW.nd rfl 0x0 (aX bL<$>aE<*>(aZ c9<$>(aZ dh<$>(aS T.fN Qb 0xC (@ae _ _ _ _ _ (aB 0) (@ae _ _ _ _ _ aE aD 0x1) 0x1))<*>aE)<*>aE)) 0x1 0x2) (@aI _ _ _ _ _ (@aO _ _ 2 _ _ _ _ eW.nd rfl 0x0 (aS T.Au QV 0xC (@ae _ _ _ _ _ (aS T.fN Qb 0xC (@ae _ _ _ _ _ (aB 0) (@ae _ _ _ _ _ aE aD 0x1) 0x1)) (@ae _ _ _ _ _ (aB 4) (@ae _ _ _ _ _ (aS T.fN Qb 0xC (@ae _ _ _ _ _ (aB 0) (@ae _ _ _ _ _ aE aD 0x1) 0x1)) aD 0x1) 0x1) 0x1)) 0x1 0x2) (@aI _ _ _ _ _ (@aO _ _ 5 _ _ _ _ eW.nd rfl 0x0 (lg<$>(eJ (N':=["_law_k","_law_script"]) (js:=[none,some 0]) (by kernel_rfl) rfl (cW rfl T.b_range (@ae _ _ _ _ _ (aB 4) aD 0x1)) dJ (λ_ _ _ _=>(aW (i:=0) (show(["_law_k","_law_script"]:List Str).Nodup by decide +kernel) rfl 0x0 (.inr rfl))) (λ_ _ _ _=>cm) (λ_ _ _ _=>(aS T.fN Qb 0xC (@ae _ _ _ _ _ (aB 1) (@ae _ _ _ _ _ (aX bL<$>aE<*>aB 0) aD 0x1) 0x1))))<*>(@kG _ _ _ _ _ _ _ _ _ _ rV (aB 0) (gr (aX bL<$>aE<*>aB 4)) (gr aE))) 0x1 0x2) (@aL _ _ _ (@aO _ _ 3 _ _ _ _ eW.nd rfl 0x0 (aS T.Aw QW 0xC (@ae _ _ _ _ _ (aB 5) (@ae _ _ _ _ _ (aB 2) aD 0x1) 0x1)) 0x1 0x2))))) ax) (@aI _ _ _ _ _ (mB (i:=6) eW.nd rfl 0x0 (N':=["_law_one"]) (js:=[none]) (by kernel_rfl) rfl (fe (aB 2)) dJ (λ_ _ _ _=>(aW (i:=0) (show(["_law_one"]:List Str).Nodup by decide +kernel) rfl 0x0 (.inr rfl))) (λ_ _ _ _=>cm) (λ_ _ _ _=>(@aM _ _ _ _ _ _ _ 0x6 (aB 0) aE 0x5)) 0x1) (@aI _ _ _ _ _ (@aO _ _ 7 _ _ _ _ eW.nd rfl 0x0 (eO lI 0x1 T.b_list iX (@ae _ _ _ _ _ (aB 6) aD 0x1)) 0x1 0x2) (@aI _ _ _ _ _ (@aO _ _ 8 _ _ _ _ eW.nd rfl 0x0 (aS T.pack QT 0xC (@ae _ _ _ _ _ (aB 6) (@ae _ _ _ _ _ (aS T.qO Qs 0xC (@ae _ _ _ _ _ (aB 2) (@ae _ _ _ _ _ (aB 3) aD 0x1) 0x1)) aD 0x1) 0x1)) 0x1 0x2) (@aI _ _ _ _ _ (@aO _ _ 9 _ _ _ _ eW.nd rfl 0x0 (eO lI 0x1 T.b_list iX (@ae _ _ _ _ _ (aB 8) aD 0x1)) 0x1 0x2) (@aI _ _ _ _ _ (@aO _ _ 10 _ _ _ _ eW.nd rfl 0x0 (aS T.qO Qs 0xC (@ae _ _ _ _ _ (aB 2) (@ae _ _ _ _ _ (aB 3) aD 0x1) 0x1)) 0x1 0x2) (@aI _ _ _ _ _ (@aO _ _ 11 _ _ _ _ eW.nd rfl 0x0 (mj T.unpack Qn 0xC pZ (@ae _ _ _ _ _ (aB 7) (@ae _ _ _ _ _ (aB 8) aD 0x1) 0x1)) 0x1 0x2) (@aI _ _ _ _ _ (@al _ _ _ _ _ _ _ _ (@PW.pt _ _ _ (jm (kU (fJ (aS T.mL Qm 0xC (@ae _ _ _ _ _ (aB 11) (@ae _ _ _ _ _ (aB 10) aD 0x1) 0x1)))) (jm (@aq _ _ _ _ _ _ _ _ (i4 hr.units) (aB 7) (aB 6) (ac _)) (kq (@aq _ _ _ _ _ _ _ _ (i4 hr.units) (aB 8) (aB 9) (ac _)))))) (~~~gC) ax) (@aI _ _ _ _ _ (@aO _ _ 12 _ _ _ _ eW.nd rfl 0x0 (@bD _ _ _ _ (@ae _ _ _ _ _ (@aw _ _ _ _ _ (@ae _ _ _ _ _ ak (@ae _ _ _ _ _ gC (@ae _ _ _ _ _ (@aw _ _ _ _ _ (@ae _ _ _ _ _ ak aD 0x1)) (@ae _ _ _ _ _ (@aw _ _ _ _ _ (@ae _ _ _ _ _ (@aw _ _ _ _ _ (@ae _ _ _ _ _ ak (@ae _ _ _ _ _ aE aD 0x1) 0x1)) aD 0x1)) aD 0x1) 0x1) 0x1) 0x1)) aD 0x1)) 0x1 0x2) (@aI _ _ _ _ _ (@al _ _ _ _ _ _ _ _ (@PW.pt _ _ _ (jm (@aq _ _ _ _ _ _ _ _ (i4 hr.units) (mj T.unpack Qn 0xC pZ (@ae _ _ _ _ _ (aB 12) (@ae _ _ _ _ _ (@bD _ _ _ _ (@ae _ _ _ _ _ ak aD 0x1)) aD 0x1) 0x1)) (@bD _ _ _ _ (@ae _ _ _ _ _ (@aw _ _ _ _ _ (@ae _ _ _ _ _ ak (@ae _ _ _ _ _ (@bD _ _ _ _ (@ae _ _ _ _ _ (@aw _ _ _ _ _ (@ae _ _ _ _ _ (@aw _ _ _ _ _ (@ae _ _ _ _ _ (@aw _ _ _ _ _ (@ae _ _ _ _ _ ak (@ae _ _ _ _ _ aE aD 0x1) 0x1)) aD 0x1)) (@ae _ _ _ _ _ (@bD _ _ _ _ (@ae _ _ _ _ _ (@bD _ _ _ _ (@ae _ _ _ _ _ (@aw _ _ _ _ _ (@ae _ _ _ _ _ ak (@ae _ _ _ _ _ aE aD 0x1) 0x1)) aD 0x1)) aD 0x1)) aD 0x1) 0x1)) aD 0x1)) aD 0x1) 0x1)) aD 0x1)) (ac _)) (kq (@aq _ _ _ _ _ _ _ _ (i4 hr.units) (aB 11) (aB 10) (ac _))))) (~~~gC) ax) (@aI _ _ _ _ _ (@aO _ _ 12 _ _ _ _ eW.nd rfl 0x0 (aS T.B0 QU 0xC (@ae _ _ _ _ _ (aB 2) (@ae _ _ _ _ _ (aS T.fN Qb 0xC (@ae _ _ _ _ _ (aB 0) (@ae _ _ _ _ _ aE aD 0x1) 0x1)) aD 0x1) 0x1)) 0x1 0x2) (@aI _ _ _ _ _ (@al _ _ _ _ _ _ _ _ (@aq _ _ _ _ _ _ _ _ (i4 hr.units) (mj T.unpack Qn 0xC pZ (@ae _ _ _ _ _ (eJ (N':=["_law_one"]) (js:=[none]) (by kernel_rfl) rfl (fe (aB 12)) dJ (λ_ _ _ _=>(aW (i:=0) (show(["_law_one"]:List Str).Nodup by decide +kernel) rfl 0x0 (.inr rfl))) (λ_ _ _ _=>cm) (λ_ _ _ _=>(@aM _ _ _ _ _ _ _ 0x6 (aB 0) aE 0x5))) (@ae _ _ _ _ _ (aB 8) aD 0x1) 0x1)) (aS T.qO Qs 0xC (@ae _ _ _ _ _ (aB 12) (@ae _ _ _ _ _ (aB 3) aD 0x1) 0x1)) (ac _)) (~~~gC) ax) (@aI _ _ _ _ _ (@cF _ _ _ _ (qx JN MK ML xX (aB 8)) 0x1) (@aI _ _ _ _ _ (@al _ _ _ _ _ _ _ _ (@aq _ _ _ _ _ _ _ _ (i4 hr.units) (aB 11) (aB 10) (ac _)) (~~~gC) ax) (@aI _ _ _ _ _ (@al _ _ _ _ _ _ _ _ (kU (fJ (aS T.Ar QX 0xC (@ae _ _ _ _ _ (aB 11) (@ae _ _ _ _ _ (aB 10) aD 0x1) 0x1)))) (~~~gC) ax) (@aI _ _ _ _ _ (@cF _ _ _ _ (qx JN MK ML xX (@aM _ _ _ _ _ _ _ 0x4 (@aM _ _ _ _ _ _ _ 0x6 (aB 11) (iD iW aE) 0x5) aE 0x5)) 0x1) (~~~(gg (qT hr.units) (mj T.unpack Qn 0xC pZ (@ae _ _ _ _ _ (aB 6) (@ae _ _ _ _ _ (aB 9) aD 0x1) 0x1)) (aB 10) (ac _)))))))))))))))))))))),?_];show#[5,a,ns,(0),rfl,hS,hl,#[],#[],19,(show(0:Int)<16 by decide),rfl,?_];generalize decide (V.int (dG ns 0%16)=V.int 5)=bg;show#[21,a,ns,bg,rfl,hS,hl,λb0 bs0 H1 s1 hB1 hbig=>?_];show#[85,a,ns,b0,bs0,bg,rfl,s1.seq hS,hl,hB1,λmss0 av0 H2 s2 dA0 lm0 hok0=>?_];have s02:=s1\s2;refine(let Jv4:St->Hp->Prop:=λσ G=>∃(b:MV) (av:V) (bs:List Bd) (ml:List (List Mk)) (v4 v5:JM V),σ=[⇑↥a,⇑(.bl bg),⇑↥b,⇑av,v4,v5,none,none,none,none,none,none,none]/\Same H G/\Blt K G b bs/\DatV K G (.list (ml.map jc)) av/\ml.length=bs.length/\∀ms∈ml,gD bs ms/\(c6 ms).length<=1000000; #[Jv4,?_,?_])
   . show#[5,a,ns,(0),rfl,s02.seq hS,hl,#[],#[],19,(show(0:Int)<2 by decide),13,eP (λ_=>?_) (λ_=>#[b0,av0,bs0,mss0,9,s02,hB1*>s2,dA0,lm0,λms hms=>#[(hok0 ms hms).1,ux hB1 (hok0 ms hms).1 ?_]])]
     . let#[n,en]:=JT (a:=1+dG ns 0 / 2%12) (by have:=cG (dG ns 0 / 2) 12 #[]; lia);have bn:=cG (dG ns 0 / 2) 12 #[];show#[5,a,ns,(0),rfl,s02.seq hS,hl,#[],#[],19,#[#[],#[]],19,(show(0:Int)<12 by decide),19,?_];rw[en];show#[5,a,ns,(1),rfl,s02.seq hS,hl,#[],#[],21,a,ns,(2),rfl,s02.seq hS,hl,#[],#[],4,n,rfl,∅,∅,λu bs H3 s3 hB3 lb3=>?_];have s03:=s02\s3;show#[21,∅,∅,λp hp=>?_];refine(let Jv1:Nat->List V->Hp->Prop:=λi acc H4=>Same H3 H4/\H4 p=⇑(.lst acc)/\acc=((List.range i).map λj:Nat=>dG ns (4+(j:Int))).map V.int; gG (lo:=0) (n:=n) ∅ Jv1 #[Same.new hp,aF,rfl] ?_ ?_ ?_)
       . rintro i acc H4 hi ⟨s4,e4,rfl⟩;show#[e4,by rw[J7,J7,JY]; exact JG _]
       . rintro i acc H4 hi ⟨s4,e4,rfl⟩;show#[339,a,ns,4+(0+(i:Int)),rfl,(s03\s4).seq hS,hl,∅,∅,e4,s4.upd hp,aF,?_];rw[Jy,JB,JB,Ji];rfl
       rintro acc H4 ⟨s4,e4,rfl⟩;let#[ys,ey,ly]:=Ht ns (4+n) 20;show#[5429,a,5,(s03\s4).seq hS,λsl hsl=>?_];rw[show(4:Int)+(n:Int)=((4+n:Nat):Int) by lia,show(20:Int)=((20:Nat):Int) from rfl,ey];have y1:=Same.new (o:=.lst (ys.map V.int)) hsl;show#[p,sl,19,y1 _ _ e4,aF,bj (by rw[J7,J7,J7,JY]; lia),λL hL=>?_];rw[<- JB];have y2:=Same.new (o:=.lst ((((List.range n).map λj:Nat=>dG ns (4+(j:Int)))++ys).map V.int)) hL;have s35:=s4\(y1\y2);show#[21,L,u,bs,5,hB3*>s35,aH.of aF,(by rw[JE,J7,JY]; lia),(by rw[JE,J7,JY]; lia),λml v H5 s5 d5 lm5 hok5=>?_];show#[u,v,bs,ml,9,(s03\s35).trans s5,(hB3*>s35).mono s5,d5,lm5,λms hms=>#[(hok5 ms hms).1,ux hB3 (hok5 ms hms).1 (.inl (hok5 ms hms).2)]]
     . cases hb:bg with
       | false=>exact .inl ((hok0 ms hms).2 hb)
       | true=>exact .inr (hbig hb)
   clear hok0 hbig dA0 lm0 s02 s2 s1 hB1;rintro σ H2 ⟨b,av,bs,ml,v4,v5,rfl,s02,hB2,dA,lm,hok⟩;have ok:=j' hB2;have n12:=hB2.bt.n12;have okm:∀ms∈ml,gD bs ms:=λms h=>(hok ms h).1;have lb:(bs.map λx=>V.ref x.e).length=bs.length:=J7 _;show#[5,b,rfl,#[_,hB2.bt.ls],λP hP=>(let Jv2:Nat->List V->Hp->Prop:=λi acc H3=>Same H2 H3/\H3 P=⇑(.lst acc)/\acc=(bs.take i).map λx=>V.ref x.f.fa; ie (xs:=bs.map λx=>V.ref x.e) ∅ Jv2 #[Same.new hP,aF,rfl] ?_ ?_ ?_)]
   . rintro i acc H3 hi ⟨s3,e3,rfl⟩;show#[e3,by rw[J7,Jp]; lia,s3.seq hB2.bt.ls]
   . rintro i y acc H3 hy ⟨s3,e3,rfl⟩;let#[x,hx,hxm,rfl]:=j0 hy;show#[5,x.e,35,s3.seq (hB2.bt.all x hxm).en,bH,e3,s3.upd hP,aF,?_];rw[Jr,hx,JB];rfl
   rintro acc H3 ⟨s3,e3,rfl⟩;rw[lb,Jh] at e3;have pr:(bs.map λx=>V.ref x.f.fa)=(bs.map (·.f)).map λf=>V.ref f.fa:=by rw[Jm]; rfl
   have fl:(bs.map (·.f)).length=bs.length:=J7 _;have lrl:(bh bs).length=(bs.map (·.f)).length:=by unfold bh b9; rw[J7]
   have fne:bs.map (·.f)≠[]:=λz=>hB2.bt.n0 (Ln.mp z);have fnd:((bs.map (·.f)).map (·.name)).Nodup:=by rw[Jm]; exact hB2.bt.nd
   have hFn:∀{H':Hp},Same H2 H'->∀f∈bs.map (·.f),F2.FnAt K H' f:=λs f hf=>by let#[x,hx,rfl]:=JW.mp hf;exact((hB2.bt.all x hx)*>s).fn
   have mok:∀ms∈ml,ms.length<=200/\∀m∈ms,MOk (bs.map (·.f)).length m:=λms h=>#[(okm ms h).2.1,λm hm=>by rw[<- lrl]; exact((okm ms h).2.2 m hm).mok ok]
   have nok:∀k<(bs.map (·.f)).length,PyData.strOk (ca bs k)=true:=λk hk=>by
     have hk':k<bs.length:=by rw[fl] at hk; exact hk
     unfold ca;rw[gj (f:=bs[k].f) (by rw[JC,JA hk']; rfl)];exact(hB2.bt.all _ (K2 hk')).ok
   have tlay:ag 14 (.list ((tbl (ca bs) ml).map (fK (ca bs)))):=ag.list (gN λe he=>sS (λm hm=>(mok _ (jo he).1).2 m hm) nok (by let#[_,k,hk,ek]:=jo he; rw[ek]; exact nok k ∅));have tpl:Pl 15 (.list ((tbl (ca bs) ml).map (fK (ca bs)))):=D0 mok ∅;have erw:((tbl (ca bs) ml).map λe=>V.str (tx (c6 e.2)))=dI (ml.map c6):=by rw[Hs (ca bs) ml λms=>V.str (tx (c6 ms))];unfold dI;rw[Jm,Jm];rfl
   have hdec:gv (bs.map (·.f)) (ml.map c6)=⇑ml:=by unfold gv;rw[JJ (by rw[J7,J7]; exact lm)];refine lN (by rw[J7]) λk l ms hl' hk=>?_;rw[JC,hk] at hl';cases hl';have hf:=okm ms (J9 hk);exact sR ok hf.2.2 hf.1 hf.2.1
   have hln:∀l∈ml.map c6,l.length<=1000000:=λl h=>by let#[ms,hms,rfl]:=JW.mp h;exact(hok ms hms).2
   have rlay:ag 1 (.list ((ml.map c6).map λl=>PyData.str (tx l))):=FX λl h=>by let#[ms,hms,rfl]:=JW.mp h;exact uy ms
   have s03:=s02\s3;have hB3:=hB2*>s3;have dA3:=DatV.mono s3 _ _ dA;have hT3:cz K H3 5 (bs.map λx:Bd=>V.ref x.f.fa):=cz.of λv hv=>by let#[x,hx,rfl]:=JW.mp hv;exact(hB3.bt.all x hx).has
   let#[pds,pt1,pl,pd]:=hT3;show#[5,P,5,.inl (aH.of e3),λD hD=>?_];have y4:=Same.new (o:=.lst (bs.map λx=>V.ref x.f.fa)) hD;have eD4:=aF (H:=H3) (a:=D) (o:=.lst (bs.map λx=>V.ref x.f.fa));have e34:=y4 _ _ e3;generalize upd H3 D (.lst (bs.map λx=>V.ref x.f.fa))=H4 at y4 eD4 e34 ⊢;show#[85,b,bs,av,ml,rfl,hB3*>y4,DatV.mono y4 _ _ dA3,lm,okm,λtv H5 s5 dT=>?_];have s35:=y4\s5;show#[P,tv,List.map (λx:Bd=>x.f) bs,tbl (ca bs) ml,rfl,aH.of (by rw[s35 _ _ e3,pr]),fne,∅,hFn (s3\s35),fnd,DatV.mono kH _ _ dT,by rw[le]; lia,(λe he=>mok e.2 (jo he).1),λR H6 s6 hR eR=>?_];rw[erw] at eR;have s36:=s35\s6;have dR:∀{G:Hp} {X:MV},G X=⇑(.lst (dI (ml.map c6)))->DatV K G (.list ((ml.map c6).map λl=>PyData.str (tx l))) ↥X:=λe=>bO (aH.of e) (ww _);show#[5,R,5,.inl (aH.of eR),λKp hKp=>?_];have y7:=Same.new (o:=.lst (dI (ml.map c6))) hKp;have eK7:=aF (H:=H6) (a:=Kp) (o:=.lst (dI (ml.map c6)));have eR7:=y7 _ _ eR;have nRK:Kp≠R:=(aY eR hKp).symm;generalize upd H6 Kp (.lst (dI (ml.map c6)))=H7 at y7 eK7 eR7 ⊢;have s37:=s36\y7;have s57:Same H5 H7:=s6\y7;show#[21,b,bs,av,ml,rfl,hB3*>s37,DatV.mono s37 _ _ dA3,lm,okm,λdv H8 s8 dD=>?_];have s38:=s37\s8;have eR8:=s8 _ _ eR7;have eK8:=s8 _ _ eK7;have e38:=s38 _ _ e3;have eD8:=(s5\(s57\s8)) _ _ eD4
   -- the heap without the rows,as it is when the bits are unpacked
   have s3r:Same H3 (ers R H8):=gB s38 (s35.free hR);have dDr:DatV K (ers R H8) (.list ((tbl (ca bs) ml).map (fK (ca bs)))) dv:=DatV.mono (xI eR7) _ _ dD;have rR:Same (ers R H8) H8:=bT;have nPR:P≠R:=aY (s35 _ _ e3) hR;have nDR:D≠R:=aY (s5 _ _ eD4) hR;have ePr:ers R H8 P=⇑(.lst (bs.map λx=>V.ref x.f.fa)):=(aU nPR)\e38;have eDr:ers R H8 D=⇑(.lst (bs.map λx=>V.ref x.f.fa)):=(aU nDR)\eD8;have eKr:ers R H8 Kp=⇑(.lst (dI (ml.map c6))):=(aU nRK)\eK8;show#[21,D,R,List.map (λx:Bd=>x.f) bs,ml.map c6,rfl,aH.of (by rw[eD8,pr]),hFn (s3\s38),fnd,ok,aH.of eR8,hln,λm' hm T es H9 s9 hF hes hN=>?_,λhn=>by rw[hdec] at hn; cases hn];rw[hdec] at hm;cases hm;subst hes;have r9:Same (ers R H8) H9:=rR\s9;have nR:R ∉ T::es.flatMap di:=λz=>by have:=hN.nw _ z;rw[eR8] at this;cases this
   have hN':New (ers R H8) (T::es.flatMap di):=#[hN.nd,λb hb=>by
     by_cases z:b=R
     . rw[z]; exact lu
     . rw[aU z]; exact hN.nw b hb]
   have dF:=k9 hF;have dE9:=DatV.mono r9 _ _ dDr;show#[42,↥T,dv,(15),rfl,#[],tpl,dF,dE9,λH10 s10=>#[5,iN ?_]];have r10:=r9\s10;have s9t:=s9\s10;show#[21,jR (n:=6) #[] (ag.list pl) (bO (aH.of (r10 _ _ eDr)) (DatAll.mono (s3r\r10) _ _ pd)) (bO (aH.of (r10 _ _ ePr)) (DatAll.mono (s3r\r10) _ _ pd)) #[5,iN ?_]];show#[21,jR #[] rlay (dR (s9t _ _ eR8)) (dR (s9t _ _ eK8)) #[5,iN ?_]];have hF10:=hF*>s10;clear dF dE9 hF dA dD dT pt1;generalize hHX:H10=HX at *;show#[ci,λq1 hq1=>#[bI,λbk hbk=>#[ci,λrw1 hrw1=>#[oU,λfa hfa=>#[ci,λO hO=>?_]]]]];have z1:=Same.new (o:=.tup [V.str "b"]) hq1;have z2:=Same.new (o:=.tup [V.str "back",V.int 0]) hbk;have z3:=Same.new (o:=.tup [V.ref bk]) hrw1;have z4:=Same.new (o:=.tup [V.str "a",V.bl false,V.ref q1,V.ref rw1]) hfa;have z5:=Same.new (o:=.lst [V.ref fa]) hO;have c1:=aJ.of (K:=K) (z5 _ _ (z4 _ _ (z3 _ _ (z2 _ _ (aF (H:=HX) (a:=q1) (o:=.tup [V.str "b"]))))));have c2:=aJ.of (K:=K) (z5 _ _ (z4 _ _ (z3 _ _ (aF (H:=upd HX q1 (.tup [V.str "b"])) (a:=bk) (o:=.tup [V.str "back",V.int 0])))));have c3:=aJ.of (K:=K) (z5 _ _ (z4 _ _ (aF (H:=upd (upd HX q1 (.tup [V.str "b"])) bk (.tup [V.str "back",V.int 0])) (a:=rw1) (o:=.tup [V.ref bk]))));have c4:=aJ.of (K:=K) (z5 _ _ (aF (H:=upd (upd (upd HX q1 (.tup [V.str "b"])) bk (.tup [V.str "back",V.int 0])) rw1 (.tup [V.ref bk])) (a:=fa) (o:=.tup [V.str "a",V.bl false,V.ref q1,V.ref rw1])));have c5:=aH.of (K:=K) (aF (H:=upd (upd (upd (upd HX q1 (.tup [V.str "b"])) bk (.tup [V.str "back",V.int 0])) rw1 (.tup [V.ref bk])) fa (.tup [V.str "a",V.bl false,V.ref q1,V.ref rw1])) (a:=O) (o:=.lst [V.ref fa]));have z15:=(((z1\z2).trans z3).trans z4).trans z5;generalize upd (upd (upd (upd (upd HX q1 (.tup [V.str "b"])) bk (.tup [V.str "back",V.int 0])) rw1 (.tup [V.ref bk])) fa (.tup [V.str "a",V.bl false,V.ref q1,V.ref rw1])) O (.lst [V.ref fa])=Hg at c1 c2 c3 c4 c5 z15 ⊢;have fnA:F2.FnAt K Hg (⟨"a",.bl false,fa,q1,rw1,["b"],[K41.rone "back" bk (.int 0)].map (·.w),[K41.rone "back" bk (.int 0)].map (·.d)⟩:F2.Fd):=Bg.fn_mk2 (ps:=["b"]) [K41.rone "back" bk (.int 0)] c4 c3 (fW (K41.ok_back c2 (K41.at_i 0))) c1 (fW (p:=K12.Nm) #[by decide +kernel,by decide +kernel]) #[] (by show 1<=100; decide) (sj 0 0);have nmA:(F2.nms (⟨"a",.bl false,fa,q1,rw1,["b"],[K41.rone "back" bk (.int 0)].map (·.w),[K41.rone "back" bk (.int 0)].map (·.d)⟩:F2.Fd)).length=1:=by kernel_rfl
   have okA:RlOk (b9 [(⟨"a",.bl false,fa,q1,rw1,["b"],[K41.rone "back" bk (.int 0)].map (·.w),[K41.rone "back" bk (.int 0)].map (·.d)⟩:F2.Fd)]) (cE [(⟨"a",.bl false,fa,q1,rw1,["b"],[K41.rone "back" bk (.int 0)].map (·.w),[K41.rone "back" bk (.int 0)].map (·.d)⟩:F2.Fd)]):=#[(by show 1<=1; decide),(by show 1<=12; decide),λn hn=>by
     rw[JK.mp hn];show#[(by show 1<=1; decide),(by show 1<=100; decide)],λk=>by
     cases k with
     | zero=>show(F2.nms (#["a",.bl false,fa,q1,rw1,["b"],[K41.rone "back" bk (.int 0)].map (·.w),[K41.rone "back" bk (.int 0)].map (·.d)]:F2.Fd)).length<=24; rw[nmA]; decide
     | succ k=>exact Jd _]
   have fitA:MFit (b9 [(⟨"a",.bl false,fa,q1,rw1,["b"],[K41.rone "back" bk (.int 0)].map (·.w),[K41.rone "back" bk (.int 0)].map (·.d)⟩:F2.Fd)]) (cE [(⟨"a",.bl false,fa,q1,rw1,["b"],[K41.rone "back" bk (.int 0)].map (·.w),[K41.rone "back" bk (.int 0)].map (·.d)⟩:F2.Fd)]) ⟨[(0,0)],[[⇑(.box 0)]]⟩:=#[(by show 1<=1; decide),(by show 1<=3; decide),fW #[(by show 0<1; decide),(by show 0<1; decide)],rfl,(λl c v hc hv=>by
     cases l with
     | zero=>cases hc; cases hv; exact nmA.symm
     | succ l=>cases hc),fW (fW #[#[by show 0<8 ^ 16; decide,by show 1<=8; decide],by show 0<=127; decide])]
   have decA:gv [(⟨"a",.bl false,fa,q1,rw1,["b"],[K41.rone "back" bk (.int 0)].map (·.w),[K41.rone "back" bk (.int 0)].map (·.d)⟩:F2.Fd)] [c6 [⟨[(0,0)],[[⇑(.box 0)]]⟩]]=⇑[[⟨[(0,0)],[[⇑(.box 0)]]⟩]]:=by
     unfold gv;refine(JJ rfl).trans (lN rfl λk l ms h1 h2=>?_);cases k with
     | zero=>cases h1; cases h2; exact sR okA (fW fitA) #[] #[]
     | succ k=>cases h1
   have mokA:MOk 1 ⟨[(0,0)],[[⇑(.box 0)]]⟩:=fitA.mok okA;show#[5,ci,λL1 hL1=>?_];have x1:=Same.new (o:=.lst [V.str "0001000100000000100000"]) hL1;show#[O,L1,[(#["a",.bl false,fa,q1,rw1,["b"],[K41.rone "back" bk (.int 0)].map (·.w),[K41.rone "back" bk (.int 0)].map (·.d)]:F2.Fd)],[c6 [#[[(0,0)],[[⇑(.box 0)]]]]],rfl,x1.seq c5,fW (fnA*>x1),by simp,okA,?_,fW (uk (fW mokA) #[] (show 1<=200 by decide) (.inl (show 1<=16 by decide))),λm' hm T2 es2 HY s12 hF2 hes2 hN2=>?_,λhn=>by rw[decA] at hn; cases hn]
   . rw[show dI [c6 [#[[(0,0)],[[⇑(.box 0)]]]]]=[V.str "0001000100000000100000"] from Jj (λs=>[V.str s]) Gd];exact aH.of aF
   rw[decA] at hm;cases hm;have dF2:=k9 hF2;rw[hes2] at dF2;show#[bI,λf1 hf1=>#[ci,λch1 hch1=>#[bI,λbx hbx=>#[ci,λl1 hl1=>#[ci,λl2 hl2=>#[bI,λmk hmk=>#[ci,λlmk hlmk=>#[bI,λen hen=>#[ci,λTT hTT=>?_]]]]]]]]];have w1:=Same.new (o:=.tup [V.str "a",V.int 0]) hf1;have w2:=Same.new (o:=.tup [V.ref f1]) hch1;have w3:=Same.new (o:=.tup [V.str "box",V.int 0]) hbx;have w4:=Same.new (o:=.lst [V.ref bx]) hl1;have w5:=Same.new (o:=.lst [V.ref l1]) hl2;have w6:=Same.new (o:=.tup [V.ref ch1,V.ref l2]) hmk;have w7:=Same.new (o:=.lst [V.ref mk]) hlmk;have w8:=Same.new (o:=.tup [V.str "a",V.ref lmk]) hen;have w9:=Same.new (o:=.lst [V.ref en]) hTT;have dTT:=bO (K:=K) (ds:=[fK (cU [(#["a",.bl false,fa,q1,rw1,["b"],[K41.rone "back" bk (.int 0)].map (·.w),[K41.rone "back" bk (.int 0)].map (·.d)]:F2.Fd)]) ("a",[#[[(0,0)],[[⇑(.box 0)]]]])]) (aH.of (aF (a:=TT) (o:=.lst [V.ref en]))) (ck (cQ (aJ.of (w9 _ _ aF)) (dQ _) (bO (aH.of (w9 _ _ (w8 _ _ aF))) (ck (cQ (aJ.of (w9 _ _ (w8 _ _ (w7 _ _ aF)))) (gP (aJ.of (w9 _ _ (w8 _ _ (w7 _ _ (w6 _ _ (w5 _ _ (w4 _ _ (w3 _ _ aF)))))))) (ck (cQ (aJ.of (w9 _ _ (w8 _ _ (w7 _ _ (w6 _ _ (w5 _ _ (w4 _ _ (w3 _ _ (w2 _ _ aF))))))))) (dQ _) (cx _)) bK)) (bO (aH.of (w9 _ _ (w8 _ _ (w7 _ _ (w6 _ _ aF))))) (ck (bO (aH.of (w9 _ _ (w8 _ _ (w7 _ _ (w6 _ _ (w5 _ _ aF)))))) (ck (cQ (aJ.of (w9 _ _ (w8 _ _ (w7 _ _ (w6 _ _ (w5 _ _ (w4 _ _ aF))))))) (dQ _) (cx _)) bK)) bK))) bK))) bK);have w19:=(((((((w1\w2).trans w3).trans w4).trans w5).trans w6).trans w7).trans w8).trans w9;generalize (upd (upd (upd (upd (upd (upd (upd (upd (upd HY f1 (.tup [V.str "a",V.int 0])) ch1 (.tup [V.ref f1])) bx (.tup [V.str "box",V.int 0])) l1 (.lst [V.ref bx])) l2 (.lst [V.ref l1])) mk (.tup [V.ref ch1,V.ref l2])) lmk (.lst [V.ref mk])) en (.tup [V.str "a",V.ref lmk])) TT (.lst [V.ref en]))=Hh at dTT w19 ⊢;have sXh:=((z15\x1).trans s12).trans w19;refine jR (n:=14) (d:=.list [fK (cU [(#["a",.bl false,fa,q1,rw1,["b"],[K41.rone "back" bk (.int 0)].map (·.w),[K41.rone "back" bk (.int 0)].map (·.d)]:F2.Fd)]) ("a",[#[[(0,0)],[[⇑(.box 0)]]]])]) #[] (ag.list (fW (sS (n:=1) (fW mokA) (λk hk=>by
     obtain rfl:k=0:=by lia
     show PyData.strOk "a"=true;decide +kernel) 0xA))) (DatV.mono w19 _ _ dF2) dTT #[5,iN ?_]
   clear dTT w19 dF2 hF2 hN2 fnA c1 c2 c3 c4 c5;have r11:=r10\sXh;have hF11:=hF10*>sXh;have eR11:=(s9t\sXh) _ _ eR8;show#[21,jR #[] tlay (k9 hF11) (DatV.mono r11 _ _ dDr) #[5,iN ?_]];have h0r:Same H (ers R H8):=s03\s3r;show#[21,a,ns,(2),rfl,(h0r\r11).seq hS,hl,#[],#[],b,bs,dG ns 2,rfl,hB3*>(s3r\r11),λb' bs' Hc sc hB' lb' rl' cn'=>?_];have lbb:(bs'.map λx=>V.ref x.e).length=bs'.length:=J7 _;show#[5,b',rfl,#[_,hB'.bt.ls],λP' hP'=>(let Jv3:Nat->List V->Hp->Prop:=λi acc H3=>Same Hc H3/\H3 P'=⇑(.lst acc)/\acc=(bs'.take i).map λx=>V.ref x.f.fa; ie (xs:=bs'.map λx=>V.ref x.e) ∅ Jv3 #[Same.new hP',aF,rfl] ?_ ?_ ?_)]
   . rintro i acc H3 hi ⟨s3,e3,rfl⟩;show#[e3,by rw[J7,Jp]; lia,s3.seq hB'.bt.ls]
   . rintro i y acc H3 hy ⟨s3,e3,rfl⟩;let#[x,hx,hxm,rfl]:=j0 hy;show#[5,x.e,35,s3.seq (hB'.bt.all x hxm).en,bH,e3,s3.upd hP',aF,?_];rw[Jr,hx,JB];rfl
   rintro acc Hd ⟨sd,ed,rfl⟩;rw[lbb,Jh] at ed;have hBd:=hB'*>sd;have ok':=j' hB';have okm':∀ms∈aT es,gD bs' ms:=λms h=>by unfold gD; rw[rl',cn']; exact okm ms h
   have lrl':(bh bs').length=(bs'.map (·.f)).length:=by unfold bh b9; rw[J7]
   have hdec':gv (bs'.map (·.f)) ((aT es).map c6)=⇑(aT es):=by unfold gv;rw[JJ (by rw[J7,J7]; lia)];refine lN (by rw[J7]) λk l ms hl' hk=>?_;rw[JC,hk] at hl';cases hl';have hf:=okm' ms (J9 hk);exact sR ok' hf.2.2 hf.1 hf.2.1
   have fl':(bs'.map (·.f)).length=bs'.length:=J7 _;have nok':∀k<(bs'.map (·.f)).length,PyData.strOk (ca bs' k)=true:=λk hk=>by
     have hk':k<bs'.length:=by rw[fl'] at hk; exact hk
     unfold ca;rw[gj (f:=bs'[k].f) (by rw[JC,JA hk']; rfl)];exact(hB'.bt.all _ (K2 hk')).ok
   have tlay':ag 14 (.list ((tbl (ca bs') (aT es)).map (fK (ca bs')))):=ag.list (gN λe he=>sS (n:=(bs'.map (·.f)).length) (λm hm=>by rw[<- lrl']; exact((okm' _ (jo he).1).2.2 m hm).mok ok') nok' (by let#[_,k,hk,ek]:=jo he; rw[ek]; exact nok' k ∅));have scd:=sc\sd;have r12:=r11\scd;have eR12:=scd _ _ eR11;show#[5,P',R,List.map (λx:Bd=>x.f) bs',(aT es).map c6,rfl,aH.of (by rw[ed,Jm]; rfl),(λf hf=>by let#[x,hx,rfl]:=JW.mp hf;exact(hBd.bt.all x hx).fn),(by rw[Jm]; exact hB'.bt.nd),ok',aH.of eR12,hln,λm' hm T3 es3 He se hF3 hes3 hN3=>?_,λhn=>by rw[hdec'] at hn; cases hn]
   rw[hdec'] at hm;have hm:=Option.some.inj hm;have dF3:=k9 hF3;rw[hes3,<- hm] at dF3;have r13:=r12\se;show#[21,b',bs',av,aT es,rfl,hBd*>se,DatV.mono (s3r\r13) _ _ dA3,∅,okm',λtv3 Hf sf d3=>?_];refine jR #[] tlay' (DatV.mono sf _ _ dF3) (DatV.mono kH _ _ d3) #[5,iN ?_];have sXf:=(scd\se).trans sf;have eRf:=sXf _ _ eR11;have hFf:=(hF11*>sXf).put (o:=.lst []) eRf nR;have rG:Same (ers R H8) (upd Hf R (.lst [])):=(r13\sf).upd lu;show#[5,.inl #[6,aH.of eRf],R,11,eRf,?_];generalize upd Hf R (.lst [])=HG at hFf rG ⊢;show#[21,jR #[] tlay (k9 hFf) (DatV.mono rG _ _ dDr) #[5,iN ?_]];have les:es.length=(aT es).length:=(J7 _).symm;have hNa:=hN'.all;show#[21,T,dv,es,bs,ca bs,ers R H8,rfl,hFf,hNa,rG,dDr,∅,okm,ok,λHA n aA=>#[5,iN ?_]];let#[k1,k2]:=hFf.con aA hNa.nd;have rA:Same (ers R H8) HA:=λb o hb=>aA.kp b o (rG b o hb) λz=>by have:=hNa.nw b (Jk _ z);rw[hb] at this;cases this
   obtain⟨en,hen⟩:∃en,es[es.length - 1]?=⇑en:=#[_,JA (by have:=K7.mpr hB2.bt.n0; lia)]
   obtain⟨k3,k4,-⟩:=k2 _ en hen;have hlast:bo (es.map λe=>V.ref e.e) (-1)=⇑(V.ref en.e):=by have:=K7.mpr hB2.bt.n0;unfold bo dM;rw[JI ∅,JJ (by rw[J7]; lia)];show(es.map λe=>V.ref e.e)[((-1:Int)+((es.map λe=>V.ref e.e).length:Int)).toNat]?=_;rw[J7,show((-1:Int)+(es.length:Int)).toNat=es.length - 1 by lia,JC,hen];rfl
   show#[21,T,35,aH.of k1,hlast,en.e,35,k3,rfl,.inl #[6,aH.of k4],en.l,11,k4,?_];have fl0:ers R H8 en.l=none:=hNa.nw _ (Kh _ (Jc _ (Jw.mpr #[en,J9 hen,Je])));have rZ:=rA.upd (o:=.lst []) fl0;show#[21,P,Kp,List.map (λx:Bd=>x.f) bs,(aT es).map c6,rfl,aH.of (by rw[rZ _ _ ePr,pr]),hFn ((s3\s3r).trans rZ),fnd,ok,aH.of (rZ _ _ eKr),hln,λm' hm T4 es4 HZ sz hF4 hes4 hN4=>?_,λhn=>by rw[hdec] at hn; cases hn];rw[hdec] at hm;have hm:=Option.some.inj hm;have dF4:=k9 hF4;rw[hes4,<- hm] at dF4;show#[5,CO #[] tlay dF4 (DatV.mono (rZ\sz) _ _ dDr) (q _)]
end
end K84
namespace K84
open PySem L2
structure Fv where
 (oc kV dc pm cd ct:Value)
 (od an:Option Addr)
 sl:Array (Option Value)
noncomputable abbrev Fv.fn (v:Fv) (n q:Str) (s:Stmt):=W.fnOf n q (eg s) (eG s) (ai s) .none v.kV v.dc v.pm v.an v.cd v.ct
abbrev FL (K:MW) (f:MV) (v:Fv) (n q:Str) (s:Stmt):Prop:=K.lookup f=⇑#[v.oc,v.od,.func (v.fn n q s),v.sl]/\W.codeIn K v.cd q=true/\W.keepIn K ↥f=true
def fl_mk {K:MW} {f:MV} {n q:Str} {s:Stmt} {oc kV dc pm cd ct:MT} {od an:JM MV} {sl:Array (JM MT)} (l:K.lookup f=⇑#[oc,od,.func (W.fnOf n q (eg s) (eG s) (ai s) .none kV dc pm an cd ct),sl]) (c:W.codeIn K cd q=true) (k:W.keepIn K ↥f=true):FL K f #[oc,kV,dc,pm,cd,ct,od,an,sl] n q s:=#[l,c,k]
set_option maxHeartbeats 4000000 in
def txt_mk {K:MW} {h:Heap} {mg:Str->JM MT} (X:K.In h) (G:h.Ns mainGlobals mg)
   {C_Flows:MV} (aC_Flows:W.nsIn K mainGlobals "Flows"=⇑⇑↥C_Flows) (pg_Flows:W.plainGet K C_Flows Str.empty=true) (hd_Flows:W.hasDictIn K C_Flows=true) (po_Flows:W.plainOver K C_Flows=true) (sa_Flows:W.findIn K ↥C_Flows "__setattr__"=⇑⇑(.builtin "object.__setattr__")) (mk_Flows:W.makesIn K C_Flows=true) (kc_Flows:W.keepIn K ↥C_Flows=true)
   (mO:W.findIn K ↥C_Flows "last"=⇑none)
   (j6:W.findIn K ↥C_Flows "number_of"=⇑none)
   (kg:W.findIn K ↥C_Flows "folded_of"=⇑none)
   (kh:W.findIn K ↥C_Flows "params_of"=⇑none)
   (jl:W.findIn K ↥C_Flows "rows_of"=⇑none)
   (jk:W.findIn K ↥C_Flows "names_in"=⇑none)
   (ki:W.findIn K ↥C_Flows "ways_in"=⇑none)
   {C_bR:MV} (aC_bR:W.nsIn K mainGlobals "BitReader"=⇑⇑↥C_bR) (pg_bR:W.plainGet K C_bR Str.empty=true) (hd_bR:W.hasDictIn K C_bR=true) (po_bR:W.plainOver K C_bR=true) (sa_bR:W.findIn K ↥C_bR "__setattr__"=⇑⇑(.builtin "object.__setattr__")) (mk_bR:W.makesIn K C_bR=true) (kc_bR:W.keepIn K ↥C_bR=true)
   (jj:W.findIn K ↥C_bR "flows"=⇑none)
   (ji:W.findIn K ↥C_bR "called"=⇑none)
   (jh:W.findIn K ↥C_bR "bits"=⇑none)
   (iY:W.findIn K ↥C_bR "at"=⇑none)
   {X_gE NN_gE:MV} {nm_gE qq_gE:Str} {bs_gE bm_gE:List MT} {sn_gE:List Str} {sub_gE:List MT} {ab_gE:Bool} {col_gE:JM Bool} {dd_gE:JM MV} {k0_gE k1_gE k2_gE k3_gE k5_gE:JM MT}
   (xa_gE:W.nsIn K mainGlobals "GlassError"=⇑⇑↥X_gE) (xl_gE:K.lookup X_gE=⇑(excClassObj nm_gE qq_gE X_gE NN_gE bs_gE bm_gE true sn_gE sub_gE ab_gE col_gE dd_gE k0_gE k1_gE k2_gE k3_gE k5_gE "ValueError.__new__")) (xv_gE:Ex.veTail bm_gE=true) (xk_gE:W.keepIn K ↥X_gE=true) (xs_gE:W.findIn K ↥X_gE "__setattr__"=⇑⇑(.builtin "object.__setattr__")) (xg_gE:W.findIn K ↥X_gE "__getattribute__"=⇑⇑(.builtin "BaseException.__getattribute__")) (xt_gE:W.findIn K ↥X_gE "__getattr__"=⇑none) (xc_gE:W.findIn K ↥X_gE "__class__"=⇑⇑(.builtin "object.__class__"))
   {X_bB NN_bB:MV} {nm_bB qq_bB:Str} {bs_bB bm_bB:List MT} {sn_bB:List Str} {sub_bB:List MT} {ab_bB:Bool} {col_bB:JM Bool} {dd_bB:JM MV} {k0_bB k1_bB k2_bB k3_bB k5_bB:JM MT}
   (xa_bB:W.nsIn K mainGlobals "BadBits"=⇑⇑↥X_bB) (xl_bB:K.lookup X_bB=⇑(excClassObj nm_bB qq_bB X_bB NN_bB bs_bB bm_bB true sn_bB sub_bB ab_bB col_bB dd_bB k0_bB k1_bB k2_bB k3_bB k5_bB "ValueError.__new__")) (xv_bB:Ex.veTail bm_bB=true) (xk_bB:W.keepIn K ↥X_bB=true) (xs_bB:W.findIn K ↥X_bB "__setattr__"=⇑⇑(.builtin "object.__setattr__")) (xg_bB:W.findIn K ↥X_bB "__getattribute__"=⇑⇑(.builtin "BaseException.__getattribute__")) (xt_bB:W.findIn K ↥X_bB "__getattr__"=⇑none) (xc_bB:W.findIn K ↥X_bB "__class__"=⇑⇑(.builtin "object.__class__"))
   (sg0:W.specialIn K (.builtin "object.__class__") "__get__"=⇑⇑(.builtin "getset_descriptor.__get__")) (tkX0:W.takesIn K (.builtin "object.__class__")=⇑true)
   (i0_bB:W.findIn K ↥X_bB "__init__"=⇑⇑(.builtin "ValueError.__init__"))
   (e_bB:W.mroIn K X_bB ↥X_gE=⇑true)
   (kk_BadBits_bB:W.kitOne K ↥X_bB ↥X_bB=⇑true)
   (kv_bB:W.kitOne K ↥X_bB (.type "ValueError")=⇑true)
   {f0:MV} {y0:Fv} (a0:W.nsIn K mainGlobals "names_of"=⇑⇑↥f0) (l0:FL K f0 y0 "names_of" "names_of" oY)
   {f1:MV} {y1:Fv} (a1:W.nsIn K mainGlobals "reads"=⇑⇑↥f1) (l1:FL K f1 y1 "reads" "reads" oE)
   {f2:MV} {y2:Fv} (a2:W.nsIn K mainGlobals "gives"=⇑⇑↥f2) (l2:FL K f2 y2 "gives" "gives" pS)
   {f3:MV} {y3:Fv} (a3:W.nsIn K mainGlobals "atoms_of"=⇑⇑↥f3) (l3:FL K f3 y3 "atoms_of" "atoms_of" om)
   {f4:MV} {y4:Fv} (a4:W.nsIn K mainGlobals "each_once"=⇑⇑↥f4) (l4:FL K f4 y4 "each_once" "each_once" nn)
   {f5:MV} {y5:Fv} (a5:W.nsIn K mainGlobals "ways"=⇑⇑↥f5) (l5:FL K f5 y5 "ways" "ways" nv)
   {f6:MV} {y6:Fv} (a6:W.nsIn K mainGlobals "begins_of"=⇑⇑↥f6) (l6:FL K f6 y6 "begins_of" "begins_of" pR)
   {f7:MV} {y7:Fv} (a7:W.nsIn K mainGlobals "firsts_behind"=⇑⇑↥f7) (l7:FL K f7 y7 "firsts_behind" "firsts_behind" p8)
   {f8:MV} {y8:Fv} (a8:W.findIn K ↥C_Flows "__init__"=⇑⇑↥f8) (i8:W.isFn K ↥f8=true) (l8:FL K f8 y8 "__init__" "Flows.__init__" ny)
   {f9:MV} {y9:Fv} (a9:W.nsIn K mainGlobals "is_leaf"=⇑⇑↥f9) (l9:FL K f9 y9 "is_leaf" "is_leaf" ox)
   {f10:MV} {y10:Fv} (a10:W.nsIn K mainGlobals "leaves"=⇑⇑↥f10) (l10:FL K f10 y10 "leaves" "leaves" nh)
   {f11:MV} {y11:Fv} (a11:W.nsIn K mainGlobals "number_bits"=⇑⇑↥f11) (l11:FL K f11 y11 "number_bits" "number_bits" oW)
   {f12:MV} {y12:Fv} (a12:W.nsIn K mainGlobals "plain_bits"=⇑⇑↥f12) (l12:FL K f12 y12 "plain_bits" "plain_bits" oJ)
   {f13:MV} {y13:Fv} (a13:W.nsIn K mainGlobals "place_bits"=⇑⇑↥f13) (l13:FL K f13 y13 "place_bits" "place_bits" nW)
   {f14:MV} {y14:Fv} (a14:W.nsIn K mainGlobals "reckoning_bits"=⇑⇑↥f14) (l14:FL K f14 y14 "reckoning_bits" "reckoning_bits" nV)
   {f15:MV} {y15:Fv} (a15:W.nsIn K mainGlobals "pack"=⇑⇑↥f15) (l15:FL K f15 y15 "pack" "pack" oF)
   {f16:MV} {y16:Fv} (a16:W.nsIn K mainGlobals "marks_bits"=⇑⇑↥f16) (l16:FL K f16 y16 "marks_bits" "marks_bits" nr)
   {f17:MV} {y17:Fv} (a17:W.nsIn K mainGlobals "mark_bits"=⇑⇑↥f17) (l17:FL K f17 y17 "mark_bits" "mark_bits" mh)
   {f18:MV} {y18:Fv} (a18:W.nsIn K mainGlobals "view_bits"=⇑⇑↥f18) (l18:FL K f18 y18 "view_bits" "view_bits" mf)
   {f19:MV} {y19:Fv} (a19:W.nsIn K mainGlobals "views_ahead"=⇑⇑↥f19) (l19:FL K f19 y19 "views_ahead" "views_ahead" mi)
   {f20:MV} {y20:Fv} (a20:W.nsIn K mainGlobals "unpack"=⇑⇑↥f20) (l20:FL K f20 y20 "unpack" "unpack" pc)
   {f21:MV} {y21:Fv} (a21:W.findIn K ↥C_bR "__init__"=⇑⇑↥f21) (i21:W.isFn K ↥f21=true) (l21:FL K f21 y21 "__init__" "BitReader.__init__" mV)
   {f22:MV} {y22:Fv} (a22:W.findIn K ↥C_bR "take"=⇑⇑↥f22) (i22:W.isFn K ↥f22=true) (l22:FL K f22 y22 "take" "BitReader.take" mZ)
   {f23:MV} {y23:Fv} (a23:W.findIn K ↥C_bR "number"=⇑⇑↥f23) (i23:W.isFn K ↥f23=true) (l23:FL K f23 y23 "number" "BitReader.number" oh)
   {f24:MV} {y24:Fv} (a24:W.findIn K ↥C_bR "any_number"=⇑⇑↥f24) (i24:W.isFn K ↥f24=true) (l24:FL K f24 y24 "any_number" "BitReader.any_number" px)
   {f25:MV} {y25:Fv} (a25:W.findIn K ↥C_bR "all_marks"=⇑⇑↥f25) (i25:W.isFn K ↥f25=true) (l25:FL K f25 y25 "all_marks" "BitReader.all_marks" oS)
   {f26:MV} {y26:Fv} (a26:W.findIn K ↥C_bR "mark"=⇑⇑↥f26) (i26:W.isFn K ↥f26=true) (l26:FL K f26 y26 "mark" "BitReader.mark" me)
   {f27:MV} {y27:Fv} (a27:W.findIn K ↥C_bR "frame"=⇑⇑↥f27) (i27:W.isFn K ↥f27=true) (l27:FL K f27 y27 "frame" "BitReader.frame" nY)
   {f28:MV} {y28:Fv} (a28:W.findIn K ↥C_bR "view"=⇑⇑↥f28) (i28:W.isFn K ↥f28=true) (l28:FL K f28 y28 "view" "BitReader.view" my)
   {f29:MV} {y29:Fv} (a29:W.findIn K ↥C_bR "place_beside"=⇑⇑↥f29) (i29:W.isFn K ↥f29=true) (l29:FL K f29 y29 "place_beside" "BitReader.place_beside" pf)
   {f30:MV} {y30:Fv} (a30:W.findIn K ↥C_bR "reckoning"=⇑⇑↥f30) (i30:W.isFn K ↥f30=true) (l30:FL K f30 y30 "reckoning" "BitReader.reckoning" ph)
   {f31:MV} {y31:Fv} (a31:W.nsIn K mainGlobals "_law_cell"=⇑⇑↥f31) (l31:FL K f31 y31 "_law_cell" "_law_cell" nH)
   {f32:MV} {y32:Fv} (a32:W.nsIn K mainGlobals "_law_part"=⇑⇑↥f32) (l32:FL K f32 y32 "_law_part" "_law_part" mx)
   {f33:MV} {y33:Fv} (a33:W.nsIn K mainGlobals "_law_name"=⇑⇑↥f33) (l33:FL K f33 y33 "_law_name" "_law_name" oV)
   {f34:MV} {y34:Fv} (a34:W.nsIn K mainGlobals "_law_function"=⇑⇑↥f34) (l34:FL K f34 y34 "_law_function" "_law_function" ot)
   {f35:MV} {y35:Fv} (a35:W.nsIn K mainGlobals "_law_program"=⇑⇑↥f35) (l35:FL K f35 y35 "_law_program" "_law_program" pX)
   {f36:MV} {y36:Fv} (a36:W.nsIn K mainGlobals "_law_tree"=⇑⇑↥f36) (l36:FL K f36 y36 "_law_tree" "_law_tree" nB)
   {f37:MV} {y37:Fv} (a37:W.nsIn K mainGlobals "_law_place"=⇑⇑↥f37) (l37:FL K f37 y37 "_law_place" "_law_place" pQ)
   {f38:MV} {y38:Fv} (a38:W.nsIn K mainGlobals "_law_chain"=⇑⇑↥f38) (l38:FL K f38 y38 "_law_chain" "_law_chain" pM)
   {f39:MV} {y39:Fv} (a39:W.nsIn K mainGlobals "_law_marks"=⇑⇑↥f39) (l39:FL K f39 y39 "_law_marks" "_law_marks" oO)
   {f40:MV} {y40:Fv} (a40:W.nsIn K mainGlobals "_law_all_marks"=⇑⇑↥f40) (l40:FL K f40 y40 "_law_all_marks" "_law_all_marks" nP)
   {f41:MV} {y41:Fv} (a41:W.nsIn K mainGlobals "_law_digit_tree"=⇑⇑↥f41) (l41:FL K f41 y41 "_law_digit_tree" "_law_digit_tree" pJ)
   {f42:MV} {y42:Fv} (a42:W.nsIn K mainGlobals "_law_digit_mark"=⇑⇑↥f42) (l42:FL K f42 y42 "_law_digit_mark" "_law_digit_mark" oI)
   {f43:MV} {y43:Fv} (a43:W.nsIn K mainGlobals "_law_digit_marks"=⇑⇑↥f43) (l43:FL K f43 y43 "_law_digit_marks" "_law_digit_marks" oX)
   {f44:MV} {y44:Fv} (a44:W.nsIn K mainGlobals "_law_digit_built"=⇑⇑↥f44) (l44:FL K f44 y44 "_law_digit_built" "_law_digit_built" nG)
   {f45:MV} {y45:Fv} (a45:W.nsIn K mainGlobals "_law_told"=⇑⇑↥f45) (l45:FL K f45 y45 "_law_told" "_law_told" pq)
   {f46:MV} {y46:Fv} (a46:W.nsIn K mainGlobals "_law_table"=⇑⇑↥f46) (l46:FL K f46 y46 "_law_table" "_law_table" nN)
   {f47:MV} {y47:Fv} (a47:W.nsIn K mainGlobals "_law_renamed"=⇑⇑↥f47) (l47:FL K f47 y47 "_law_renamed" "_law_renamed" mz)
   {f48:MV} {y48:Fv} (a48:W.nsIn K mainGlobals "_law_alike"=⇑⇑↥f48) (l48:FL K f48 y48 "_law_alike" "_law_alike" pw)
   {f49:MV} {y49:Fv} (a49:W.nsIn K mainGlobals "_law_apart"=⇑⇑↥f49) (l49:FL K f49 y49 "_law_apart" "_law_apart" mX)
   {f50:MV} {y50:Fv} (a50:W.nsIn K mainGlobals "law"=⇑⇑↥f50) (l50:FL K f50 y50 "law" "law" m5)
   {tk0:Tok} (w0:W.nsIn K mainGlobals "SIGN_BITS"=⇑⇑(.int 4 tk0))
   {tk1:Tok} (w1:W.nsIn K mainGlobals "GONE_BITS"=⇑⇑(.str "00" tk1))
   {tk2:Tok} (w2:W.nsIn K mainGlobals "AS_AHEAD_BITS"=⇑⇑(.str "01" tk2))
   {tk3:Tok} (w3:W.nsIn K mainGlobals "MOST_LEAVES"=⇑⇑(.int 8 tk3))
   {tk4:Tok} (w4:W.nsIn K mainGlobals "MOST_STATIONS"=⇑⇑(.int 200 tk4))
   {tk5:Tok} (w5:W.nsIn K mainGlobals "MOST_FRAMES"=⇑⇑(.int 3 tk5))
   {tk6:Tok} (w6:W.nsIn K mainGlobals "MOST_GROUPS"=⇑⇑(.int 16 tk6))
   {tk7:Tok} (w7:W.nsIn K mainGlobals "MOST_BOX"=⇑⇑(.int 127 tk7))
   {aT0:MV} {odT0:JM MV} {itT0:Array MT} {nT0:Nat} {slT0:Array (JM MT)} (q0:W.nsIn K mainGlobals "GIVING_KINDS"=⇑⇑↥aT0) (m0:K.lookup aT0=⇑#[.type "tuple",odT0,.seq itT0 nT0,slT0]) (v0:aV (K12.giving.map V.str) itT0.toList) (s0:itT0.size<=sizeLine)
   {aT1:MV} {itT1:Array MT} {nT1:Nat} {slT1:Array (JM MT)} (q1:W.nsIn K mainGlobals "SIGNS"=⇑⇑↥aT1) (m1:K.lookup aT1=⇑#[.type "tuple",none,.seq itT1 nT1,slT1]) (v1:aV Bt.sgTup itT1.toList) (s1:itT1.size<=sizeLine)
   {aD0:MV} (qD0:W.nsIn K mainGlobals "ATOM_PLACES"=⇑⇑↥aD0) (mD0:PyProof.Rows.KTD.tabLook (pG K) (λa=>K.lookup a) aD0 K12.tabl=true)
   (z_ValueError:W.nsIn K mainGlobals "ValueError"=⇑none)
   (z_len:W.nsIn K mainGlobals "len"=⇑none)
   (z_list:W.nsIn K mainGlobals "list"=⇑none)
   (z_tuple:W.nsIn K mainGlobals "tuple"=⇑none)
   (z_isinstance:W.nsIn K mainGlobals "isinstance"=⇑none)
   (z_range:W.nsIn K mainGlobals "range"=⇑none)
   (z_all:W.nsIn K mainGlobals "all"=⇑none)
   (z_enumerate:W.nsIn K mainGlobals "enumerate"=⇑none)
   (z_dict:W.nsIn K mainGlobals "dict"=⇑none)
   (z_str:W.nsIn K mainGlobals "str"=⇑none)
   (z_zip:W.nsIn K mainGlobals "zip"=⇑none)
   (z_int:W.nsIn K mainGlobals "int"=⇑none)
   (z_bool:W.nsIn K mainGlobals "bool"=⇑none)
   (z_min:W.nsIn K mainGlobals "min"=⇑none)
   : ∃t,Txt K mg t:=by
 show#[#[X_gE,X_bB,C_Flows,C_bR,f0,y0.fn "names_of" "names_of" oY,f1,y1.fn "reads" "reads" oE,f2,y2.fn "gives" "gives" pS,f3,y3.fn "atoms_of" "atoms_of" om,f4,y4.fn "each_once" "each_once" nn,f5,y5.fn "ways" "ways" nv,f6,y6.fn "begins_of" "begins_of" pR,f7,y7.fn "firsts_behind" "firsts_behind" p8,f8,y8.fn "__init__" "Flows.__init__" ny,f9,y9.fn "is_leaf" "is_leaf" ox,f10,y10.fn "leaves" "leaves" nh,f11,y11.fn "number_bits" "number_bits" oW,f12,y12.fn "plain_bits" "plain_bits" oJ,f13,y13.fn "place_bits" "place_bits" nW,f14,y14.fn "reckoning_bits" "reckoning_bits" nV,f15,y15.fn "pack" "pack" oF,f16,y16.fn "marks_bits" "marks_bits" nr,f17,y17.fn "mark_bits" "mark_bits" mh,f18,y18.fn "view_bits" "view_bits" mf,f19,y19.fn "views_ahead" "views_ahead" mi,f20,y20.fn "unpack" "unpack" pc,f21,y21.fn "__init__" "BitReader.__init__" mV,f22,y22.fn "take" "BitReader.take" mZ,f23,y23.fn "number" "BitReader.number" oh,f24,y24.fn "any_number" "BitReader.any_number" px,f25,y25.fn "all_marks" "BitReader.all_marks" oS,f26,y26.fn "mark" "BitReader.mark" me,f27,y27.fn "frame" "BitReader.frame" nY,f28,y28.fn "view" "BitReader.view" my,f29,y29.fn "place_beside" "BitReader.place_beside" pf,f30,y30.fn "reckoning" "BitReader.reckoning" ph,f31,y31.fn "_law_cell" "_law_cell" nH,f32,y32.fn "_law_part" "_law_part" mx,f33,y33.fn "_law_name" "_law_name" oV,f34,y34.fn "_law_function" "_law_function" ot,f35,y35.fn "_law_program" "_law_program" pX,f36,y36.fn "_law_tree" "_law_tree" nB,f37,y37.fn "_law_place" "_law_place" pQ,f38,y38.fn "_law_chain" "_law_chain" pM,f39,y39.fn "_law_marks" "_law_marks" oO,f40,y40.fn "_law_all_marks" "_law_all_marks" nP,f41,y41.fn "_law_digit_tree" "_law_digit_tree" pJ,f42,y42.fn "_law_digit_mark" "_law_digit_mark" oI,f43,y43.fn "_law_digit_marks" "_law_digit_marks" oX,f44,y44.fn "_law_digit_built" "_law_digit_built" nG,f45,y45.fn "_law_told" "_law_told" pq,f46,y46.fn "_law_table" "_law_table" nN,f47,y47.fn "_law_renamed" "_law_renamed" mz,f48,y48.fn "_law_alike" "_law_alike" pw,f49,y49.fn "_law_apart" "_law_apart" mX,f50,y50.fn "law" "law" m5,aT0,aT1,aD0],?_];have bl:∀(s:MU) (u:MT),BindsTo s (y50.fn "law" "law" m5) ⟨[u],[]⟩ [("_law_script",u)]:=λs u=>.of_eq rfl;show#[(zA X G xa_gE xl_gE xv_gE xk_gE xs_gE xg_gE xt_gE xc_gE sg0 tkX0),
   (zA X G xa_bB xl_bB xv_bB xk_bB xs_bB xg_bB xt_bB xc_bB sg0 tkX0),
   (i0_bB),
   (e_bB),
   (kk_BadBits_bB),
   (kv_bB),
   (bX X G a0 l0.1 l0.2.1 l0.2.2 λ_ _ _ _ _ _ us hl=>match us,hl with | [_],_=>rfl),
   (bX X G a1 l1.1 l1.2.1 l1.2.2 λ_ _ _ _ _ _ us hl=>match us,hl with | [_],_=>rfl),
   (bX X G a2 l2.1 l2.2.1 l2.2.2 λ_ _ _ _ _ _ us hl=>match us,hl with | [_],_=>rfl),
   (bX X G a3 l3.1 l3.2.1 l3.2.2 λ_ _ _ _ _ _ us hl=>match us,hl with | [_],_=>rfl),
   (bX X G a4 l4.1 l4.2.1 l4.2.2 λ_ _ _ _ _ _ us hl=>match us,hl with | [_],_=>rfl),
   (bX X G a5 l5.1 l5.2.1 l5.2.2 λ_ _ _ _ _ _ us hl=>match us,hl with | [_],_=>rfl),
   (bX X G a6 l6.1 l6.2.1 l6.2.2 λ_ _ _ _ _ _ us hl=>match us,hl with | [_],_=>rfl),
   (bX X G a7 l7.1 l7.2.1 l7.2.2 λ_ _ _ _ _ _ us hl=>match us,hl with | [_,_],_=>rfl),
   (vZ mk_Flows kc_Flows a8 i8 l8.1 l8.2.1 l8.2.2 λ_ _ _ _ _ _ us hl=>match us,hl with | [_,_],_=>rfl),
   (bX X G a9 l9.1 l9.2.1 l9.2.2 λ_ _ _ _ _ _ us hl=>match us,hl with | [_],_=>rfl),
   (bX X G a10 l10.1 l10.2.1 l10.2.2 λ_ _ _ _ _ _ us hl=>match us,hl with | [_],_=>rfl),
   (bX X G a11 l11.1 l11.2.1 l11.2.2 λ_ _ _ _ _ _ us hl=>match us,hl with | [_],_=>rfl),
   (bX X G a12 l12.1 l12.2.1 l12.2.2 λ_ _ _ _ _ _ us hl=>match us,hl with | [_,_],_=>rfl),
   (bX X G a13 l13.1 l13.2.1 l13.2.2 λ_ _ _ _ _ _ us hl=>match us,hl with | [_],_=>rfl),
   (bX X G a14 l14.1 l14.2.1 l14.2.2 λ_ _ _ _ _ _ us hl=>match us,hl with | [_],_=>rfl),
   (bX X G a15 l15.1 l15.2.1 l15.2.2 λ_ _ _ _ _ _ us hl=>match us,hl with | [_,_],_=>rfl),
   (bX X G a16 l16.1 l16.2.1 l16.2.2 λ_ _ _ _ _ _ us hl=>match us,hl with | [_,_],_=>rfl),
   (bX X G a17 l17.1 l17.2.1 l17.2.2 λ_ _ _ _ _ _ us hl=>match us,hl with | [_,_,_],_=>rfl),
   (bX X G a18 l18.1 l18.2.1 l18.2.2 λ_ _ _ _ _ _ us hl=>match us,hl with | [_,_],_=>rfl),
   (bX X G a19 l19.1 l19.2.1 l19.2.2 λ_ _ _ _ _ _ us hl=>match us,hl with | [_,_],_=>rfl),
   (bX X G a20 l20.1 l20.2.1 l20.2.2 λ_ _ _ _ _ _ us hl=>match us,hl with | [_,_],_=>rfl),
   (vZ mk_bR kc_bR a21 i21 l21.1 l21.2.1 l21.2.2 λ_ _ _ _ _ _ us hl=>match us,hl with | [_,_,_],_=>rfl),
   (iQ a22 i22 l22.1 l22.2.1 l22.2.2 λ_ _ _ _ _ _ us hl=>match us,hl with | [_,_],_=>rfl),
   (iQ a23 i23 l23.1 l23.2.1 l23.2.2 λ_ _ _ _ _ _ us hl=>match us,hl with | [_,_,_],_=>rfl),
   (iQ a24 i24 l24.1 l24.2.1 l24.2.2 λ_ _ _ _ _ _ us hl=>match us,hl with | [_],_=>rfl),
   (iQ a25 i25 l25.1 l25.2.1 l25.2.2 λ_ _ _ _ _ _ us hl=>match us,hl with | [_],_=>rfl),
   (iQ a26 i26 l26.1 l26.2.1 l26.2.2 λ_ _ _ _ _ _ us hl=>match us,hl with | [_,_],_=>rfl),
   (iQ a27 i27 l27.1 l27.2.1 l27.2.2 λ_ _ _ _ _ _ us hl=>match us,hl with | [_],_=>rfl),
   (iQ a28 i28 l28.1 l28.2.1 l28.2.2 λ_ _ _ _ _ _ us hl=>match us,hl with | [_,_,_],_=>rfl),
   (iQ a29 i29 l29.1 l29.2.1 l29.2.2 λ_ _ _ _ _ _ us hl=>match us,hl with | [_,_],_=>rfl),
   (iQ a30 i30 l30.1 l30.2.1 l30.2.2 λ_ _ _ _ _ _ us hl=>match us,hl with | [_,_],_=>rfl),
   (bX X G a31 l31.1 l31.2.1 l31.2.2 λ_ _ _ _ _ _ us hl=>match us,hl with | [_,_],_=>rfl),
   (bX X G a32 l32.1 l32.2.1 l32.2.2 λ_ _ _ _ _ _ us hl=>match us,hl with | [_,_,_],_=>rfl),
   (bX X G a33 l33.1 l33.2.1 l33.2.2 λ_ _ _ _ _ _ us hl=>match us,hl with | [_,_],_=>rfl),
   (bX X G a34 l34.1 l34.2.1 l34.2.2 λ_ _ _ _ _ _ us hl=>match us,hl with | [_,_,_,_],_=>rfl),
   (bX X G a35 l35.1 l35.2.1 l35.2.2 λ_ _ _ _ _ _ us hl=>match us,hl with | [_,_],_=>rfl),
   (bX X G a36 l36.1 l36.2.1 l36.2.2 λ_ _ _ _ _ _ us hl=>match us,hl with | [_,_],_=>rfl),
   (bX X G a37 l37.1 l37.2.1 l37.2.2 λ_ _ _ _ _ _ us hl=>match us,hl with | [_,_],_=>rfl),
   (bX X G a38 l38.1 l38.2.1 l38.2.2 λ_ _ _ _ _ _ us hl=>match us,hl with | [_,_,_],_=>rfl),
   (bX X G a39 l39.1 l39.2.1 l39.2.2 λ_ _ _ _ _ _ us hl=>match us,hl with | [_,_,_,_],_=>rfl),
   (bX X G a40 l40.1 l40.2.1 l40.2.2 λ_ _ _ _ _ _ us hl=>match us,hl with | [_,_,_],_=>rfl),
   (bX X G a41 l41.1 l41.2.1 l41.2.2 λ_ _ _ _ _ _ us hl=>match us,hl with | [_,_],_=>rfl),
   (bX X G a42 l42.1 l42.2.1 l42.2.2 λ_ _ _ _ _ _ us hl=>match us,hl with | [_,_,_],_=>rfl),
   (bX X G a43 l43.1 l43.2.1 l43.2.2 λ_ _ _ _ _ _ us hl=>match us,hl with | [_,_],_=>rfl),
   (bX X G a44 l44.1 l44.2.1 l44.2.2 λ_ _ _ _ _ _ us hl=>match us,hl with | [_,_,_],_=>rfl),
   (bX X G a45 l45.1 l45.2.1 l45.2.2 λ_ _ _ _ _ _ us hl=>match us,hl with | [_,_],_=>rfl),
   (bX X G a46 l46.1 l46.2.1 l46.2.2 λ_ _ _ _ _ _ us hl=>match us,hl with | [_,_],_=>rfl),
   (bX X G a47 l47.1 l47.2.1 l47.2.2 λ_ _ _ _ _ _ us hl=>match us,hl with | [_,_],_=>rfl),
   (bX X G a48 l48.1 l48.2.1 l48.2.2 λ_ _ _ _ _ _ us hl=>match us,hl with | [_,_],_=>rfl),
   (bX X G a49 l49.1 l49.2.1 l49.2.2 λ_ _ _ _ _ _ us hl=>match us,hl with | [_,_],_=>rfl),
   (bX X G a50 l50.1 l50.2.1 l50.2.2 λ_ _ _ _ _ _ us hl=>match us,hl with | [_],_=>rfl),
   #[#[pg_Flows,hd_Flows,po_Flows,sa_Flows],W.mg_of X G aC_Flows],
   #[#[pg_bR,hd_bR,po_bR,sa_bR],W.mg_of X G aC_bR],
   mO,
   j6,
   kg,
   kh,
   jl,
   jk,
   ki,
   jj,
   ji,
   jh,
   iY,
   #[_,W.mg_of X G w0],
   #[_,W.mg_of X G w1],
   #[_,W.mg_of X G w2],
   #[_,W.mg_of X G w3],
   #[_,W.mg_of X G w4],
   #[_,W.mg_of X G w5],
   #[_,W.mg_of X G w6],
   #[_,W.mg_of X G w7],
   W.mg_of X G q0,
   (λH=>.inr #[_,itT0,nT0,m0,7,s0,v0]),
   W.mg_of X G q1,
   (λH=>.inr #[_,itT1,nT1,m1,7,s1,v1]),
   #[_,m1,7],
   W.mg_of X G qD0,
   EI mD0,
   W.mg_none_of X G z_ValueError,
   W.mg_none_of X G z_len,
   W.mg_none_of X G z_list,
   W.mg_none_of X G z_tuple,
   W.mg_none_of X G z_isinstance,
   W.mg_none_of X G z_range,
   W.mg_none_of X G z_all,
   W.mg_none_of X G z_enumerate,
   W.mg_none_of X G z_dict,
   W.mg_none_of X G z_str,
   W.mg_none_of X G z_zip,
   W.mg_none_of X G z_int,
   W.mg_none_of X G z_bool,
   W.mg_none_of X G z_min,
   bl]
end K84
end
open PySem PySem.W PyProof.Rows
set_option maxRecDepth 100000 in
set_option maxHeartbeats 0 in
theorem PySem.Challenge.cw_stopglass_k84_whole_unpacked_is_packed_holds : PySem.Challenge.rw_stopglass_k84_whole_unpacked_is_packed.Holds := by
 refine Hd.pk.2 ?_
 unfold Hd.pk
 dsimp only
 k_fill
 refine L2.walk_ofK (l:=PySem.Challenge.rw_stopglass_k84_whole_unpacked_is_packed) (n:=63) (k:=36) (x:="_law_script") (CX:=L2.CX0) (sp:=K84.sp_law) rfl (by decide) rfl ⟨rfl,by decide,by decide⟩ (λw h Y=>PySem.W.kIn_of Y) ?F ?S ?C
 case F =>
   intro w mg fa h KX G hmg;have T:∃t,K84.Txt (L2.KOf KX) mg t:=by
     dsimp only[L2.KOf]
     refine' K84.txt_mk KX G ?aC_Flows ?pg_Flows ?hd_Flows ?po_Flows ?sa_Flows ?mk_Flows ?kc_Flows ?mO ?j6 ?kg ?kh ?jl ?jk ?ki ?aC_bR ?pg_bR ?hd_bR ?po_bR ?sa_bR ?mk_bR ?kc_bR ?jj ?ji ?jh ?iY ?xa_gE ?xl_gE ?xv_gE ?xk_gE ?xs_gE ?xg_gE ?xt_gE ?xc_gE ?xa_bB ?xl_bB ?xv_bB ?xk_bB ?xs_bB ?xg_bB ?xt_bB ?xc_bB ?sg0 ?tkX0 ?i0_bB ?e_bB ?kk_BadBits_bB ?kv_bB ?a0 ?l0 ?a1 ?l1 ?a2 ?l2 ?a3 ?l3 ?a4 ?l4 ?a5 ?l5 ?a6 ?l6 ?a7 ?l7 ?a8 ?i8 ?l8 ?a9 ?l9 ?a10 ?l10 ?a11 ?l11 ?a12 ?l12 ?a13 ?l13 ?a14 ?l14 ?a15 ?l15 ?a16 ?l16 ?a17 ?l17 ?a18 ?l18 ?a19 ?l19 ?a20 ?l20 ?a21 ?i21 ?l21 ?a22 ?i22 ?l22 ?a23 ?i23 ?l23 ?a24 ?i24 ?l24 ?a25 ?i25 ?l25 ?a26 ?i26 ?l26 ?a27 ?i27 ?l27 ?a28 ?i28 ?l28 ?a29 ?i29 ?l29 ?a30 ?i30 ?l30 ?a31 ?l31 ?a32 ?l32 ?a33 ?l33 ?a34 ?l34 ?a35 ?l35 ?a36 ?l36 ?a37 ?l37 ?a38 ?l38 ?a39 ?l39 ?a40 ?l40 ?a41 ?l41 ?a42 ?l42 ?a43 ?l43 ?a44 ?l44 ?a45 ?l45 ?a46 ?l46 ?a47 ?l47 ?a48 ?l48 ?a49 ?l49 ?a50 ?l50 ?w0 ?w1 ?w2 ?w3 ?w4 ?w5 ?w6 ?w7 ?q0 ?m0 ?v0 ?s0 ?q1 ?m1 ?v1 ?s1 ?qD0 ?mD0 ?z_ValueError ?z_len ?z_list ?z_tuple ?z_isinstance ?z_range ?z_all ?z_enumerate ?z_dict ?z_str ?z_zip ?z_int ?z_bool ?z_min
     (case aC_Flows=>k_is)
     (case pg_Flows=>k_is)
     (case hd_Flows=>k_is)
     (case po_Flows=>k_is)
     (case sa_Flows=>k_is)
     (case mk_Flows=>k_is)
     (case kc_Flows=>k_is)
     (case mO=>k_is)
     (case j6=>k_is)
     (case kg=>k_is)
     (case kh=>k_is)
     (case jl=>k_is)
     (case jk=>k_is)
     (case ki=>k_is)
     (case aC_bR=>k_is)
     (case pg_bR=>k_is)
     (case hd_bR=>k_is)
     (case po_bR=>k_is)
     (case sa_bR=>k_is)
     (case mk_bR=>k_is)
     (case kc_bR=>k_is)
     (case jj=>k_is)
     (case ji=>k_is)
     (case jh=>k_is)
     (case iY=>k_is)
     (case xa_gE=>k_is)
     (case xl_gE=>k_is)
     (case xv_gE=>first|k_is|kernel_rfl)
     (case xk_gE=>k_is)
     (case xs_gE=>k_is)
     (case xg_gE=>k_is)
     (case xt_gE=>k_is)
     (case xc_gE=>k_is)
     (case xa_bB=>k_is)
     (case xl_bB=>k_is)
     (case xv_bB=>first|k_is|kernel_rfl)
     (case xk_bB=>k_is)
     (case xs_bB=>k_is)
     (case xg_bB=>k_is)
     (case xt_bB=>k_is)
     (case xc_bB=>k_is)
     (case sg0=>first|k_is|kernel_rfl)
     (case tkX0=>first|k_is|kernel_rfl)
     (case i0_bB=>first|k_is|kernel_rfl)
     (case e_bB=>first|k_is|kernel_rfl)
     (case kk_BadBits_bB=>first|k_is|kernel_rfl)
     (case kv_bB=>first|k_is|kernel_rfl)
     (case a0=>k_is)
     (case l0=>apply K84.fl_mk <;> k_is)
     (case a1=>k_is)
     (case l1=>apply K84.fl_mk <;> k_is)
     (case a2=>k_is)
     (case l2=>apply K84.fl_mk <;> k_is)
     (case a3=>k_is)
     (case l3=>apply K84.fl_mk <;> k_is)
     (case a4=>k_is)
     (case l4=>apply K84.fl_mk <;> k_is)
     (case a5=>k_is)
     (case l5=>apply K84.fl_mk <;> k_is)
     (case a6=>k_is)
     (case l6=>apply K84.fl_mk <;> k_is)
     (case a7=>k_is)
     (case l7=>apply K84.fl_mk <;> k_is)
     (case a8=>k_is)
     (case i8=>k_is)
     (case l8=>apply K84.fl_mk <;> k_is)
     (case a9=>k_is)
     (case l9=>apply K84.fl_mk <;> k_is)
     (case a10=>k_is)
     (case l10=>apply K84.fl_mk <;> k_is)
     (case a11=>k_is)
     (case l11=>apply K84.fl_mk <;> k_is)
     (case a12=>k_is)
     (case l12=>apply K84.fl_mk <;> k_is)
     (case a13=>k_is)
     (case l13=>apply K84.fl_mk <;> k_is)
     (case a14=>k_is)
     (case l14=>apply K84.fl_mk <;> k_is)
     (case a15=>k_is)
     (case l15=>apply K84.fl_mk <;> k_is)
     (case a16=>k_is)
     (case l16=>apply K84.fl_mk <;> k_is)
     (case a17=>k_is)
     (case l17=>apply K84.fl_mk <;> k_is)
     (case a18=>k_is)
     (case l18=>apply K84.fl_mk <;> k_is)
     (case a19=>k_is)
     (case l19=>apply K84.fl_mk <;> k_is)
     (case a20=>k_is)
     (case l20=>apply K84.fl_mk <;> k_is)
     (case a21=>k_is)
     (case i21=>k_is)
     (case l21=>apply K84.fl_mk <;> k_is)
     (case a22=>k_is)
     (case i22=>k_is)
     (case l22=>apply K84.fl_mk <;> k_is)
     (case a23=>k_is)
     (case i23=>k_is)
     (case l23=>apply K84.fl_mk <;> k_is)
     (case a24=>k_is)
     (case i24=>k_is)
     (case l24=>apply K84.fl_mk <;> k_is)
     (case a25=>k_is)
     (case i25=>k_is)
     (case l25=>apply K84.fl_mk <;> k_is)
     (case a26=>k_is)
     (case i26=>k_is)
     (case l26=>apply K84.fl_mk <;> k_is)
     (case a27=>k_is)
     (case i27=>k_is)
     (case l27=>apply K84.fl_mk <;> k_is)
     (case a28=>k_is)
     (case i28=>k_is)
     (case l28=>apply K84.fl_mk <;> k_is)
     (case a29=>k_is)
     (case i29=>k_is)
     (case l29=>apply K84.fl_mk <;> k_is)
     (case a30=>k_is)
     (case i30=>k_is)
     (case l30=>apply K84.fl_mk <;> k_is)
     (case a31=>k_is)
     (case l31=>apply K84.fl_mk <;> k_is)
     (case a32=>k_is)
     (case l32=>apply K84.fl_mk <;> k_is)
     (case a33=>k_is)
     (case l33=>apply K84.fl_mk <;> k_is)
     (case a34=>k_is)
     (case l34=>apply K84.fl_mk <;> k_is)
     (case a35=>k_is)
     (case l35=>apply K84.fl_mk <;> k_is)
     (case a36=>k_is)
     (case l36=>apply K84.fl_mk <;> k_is)
     (case a37=>k_is)
     (case l37=>apply K84.fl_mk <;> k_is)
     (case a38=>k_is)
     (case l38=>apply K84.fl_mk <;> k_is)
     (case a39=>k_is)
     (case l39=>apply K84.fl_mk <;> k_is)
     (case a40=>k_is)
     (case l40=>apply K84.fl_mk <;> k_is)
     (case a41=>k_is)
     (case l41=>apply K84.fl_mk <;> k_is)
     (case a42=>k_is)
     (case l42=>apply K84.fl_mk <;> k_is)
     (case a43=>k_is)
     (case l43=>apply K84.fl_mk <;> k_is)
     (case a44=>k_is)
     (case l44=>apply K84.fl_mk <;> k_is)
     (case a45=>k_is)
     (case l45=>apply K84.fl_mk <;> k_is)
     (case a46=>k_is)
     (case l46=>apply K84.fl_mk <;> k_is)
     (case a47=>k_is)
     (case l47=>apply K84.fl_mk <;> k_is)
     (case a48=>k_is)
     (case l48=>apply K84.fl_mk <;> k_is)
     (case a49=>k_is)
     (case l49=>apply K84.fl_mk <;> k_is)
     (case a50=>k_is)
     (case l50=>apply K84.fl_mk <;> k_is)
     (case w0=>k_is)
     (case w1=>k_is)
     (case w2=>k_is)
     (case w3=>k_is)
     (case w4=>k_is)
     (case w5=>k_is)
     (case w6=>k_is)
     (case w7=>k_is)
     (case q0=>k_is)
     (case m0=>k_is)
     (case v0=>(repeat (first|exact .nil|refine .cons ⟨_,rfl⟩ ?_)))
     (case s0=>decide)
     (case q1=>k_is)
     (case m1=>k_is)
     (case v1=>(repeat (first|exact .nil|refine .cons ⟨_,rfl⟩ ?_)))
     (case s1=>decide)
     (case qD0=>k_is)
     (case mD0=>kernel_rfl)
     (case z_ValueError=>k_is)
     (case z_len=>k_is)
     (case z_list=>k_is)
     (case z_tuple=>k_is)
     (case z_isinstance=>k_is)
     (case z_range=>k_is)
     (case z_all=>k_is)
     (case z_enumerate=>k_is)
     (case z_dict=>k_is)
     (case z_str=>k_is)
     (case z_zip=>k_is)
     (case z_int=>k_is)
     (case z_bool=>k_is)
     (case z_min=>k_is)
   obtain⟨t,T⟩:=T;have e0:=hmg.symm.trans T.law.g;cases e0;exact⟨t.qL,T.bl,λbase kb nb=>K84.ok_law T⟩
 case S=>exact λK H a ns hl hO hS=>⟨a,ns,rfl,hS,hl,λ_=>rfl⟩
 case C=>exact λ_ _ _ _ z=>z
